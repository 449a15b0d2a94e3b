/- The contracts of long division, of the operations on integers, of comparison. -/
import Derived.Test.YtffipjofefemiaaGreatDoorMA
import Derived.Test.YtffipjofefemiaaGreatDoorShelf
import Derived.Deep.RegionWith
import Derived.Deep.RegionHeld3
namespace Go.Proofs.YtffipjofefemiaaGreatDoor
open Go.RowKit Kb

/-- The state of a long division: the digits from k on are found. -/
def LongRel (A D nu nq k : Nat) (U Q : List Nat) : Prop :=
  U.length = nu ∧ Lim U ∧ Q.length = nq ∧ Lim Q ∧ val U < D * 65536 ^ k ∧ A = val U + D * (65536 ^ k * val (Q.drop k))
theorem LongRel.start {A D nu nq : Nat} {U : List Nat} (h1 : U.length = nu) (h2 : Lim U) (h3 : val U = A) (h4 : A < D * 65536 ^ nq) : LongRel A D nu nq nq U (List.replicate nq 0) :=
  ⟨h1, h2, List.length_replicate, lim_replicate _, by rw [h3]; exact h4, by rw [h3, List.drop_of_length_le (by rw [List.length_replicate]; exact Nat.le_refl _)]; simp [val]⟩
theorem LongRel.low {A D nu nq i m : Nat} {U Q V : List Nat} (h : LongRel A D nu nq (i + 1) U Q) (hV : V.length = m + 2) (lV : Lim V) (hD : val V = D) (hi : i + (m + 3) ≤ nu) :
    val ((U.drop i).take (m + 3)) < 65536 * val V ∧ val U = val (U.take i) + 65536 ^ i * val ((U.drop i).take (m + 3)) ∧ val (U.drop (i + (m + 3))) = 0 := by
  obtain ⟨h1, h2, h3, h4, h5, h6⟩ := h
  have s1 := val_split (l := U) i (by omega)
  have s2 := val_split (l := U.drop i) (m + 3) (by rw [List.length_drop]; omega)
  rw [List.drop_drop] at s2
  have h7 : 65536 ^ i * val (U.drop i) < 65536 ^ i * (65536 * D) := by
    have e : D * 65536 ^ (i + 1) = 65536 ^ i * (65536 * D) := by rw [Nat.pow_succ, Nat.mul_comm D, Nat.mul_assoc]
    omega
  have h8 : val (U.drop i) < 65536 * D := Nat.lt_of_mul_lt_mul_left h7
  have h9 := val_lt lV
  rw [hV, hD] at h9
  have p : 65536 ^ (m + 3) = 65536 * 65536 ^ (m + 2) := by rw [Nat.pow_succ, Nat.mul_comm]
  have h10 : val (U.drop (i + (m + 3))) = 0 := by
    rcases Nat.eq_zero_or_pos (val (U.drop (i + (m + 3)))) with h | h
    · exact h
    · exfalso
      have : 65536 ^ (m + 3) * 1 ≤ 65536 ^ (m + 3) * val (U.drop (i + (m + 3))) := Nat.mul_le_mul_left _ h
      omega
  rw [h10, Nat.mul_zero, Nat.add_zero] at s2
  rw [hD]
  exact ⟨by omega, by rw [s1, s2], h10⟩
theorem LongRel.top {A D nu nq i m : Nat} {U Q V : List Nat} (h : LongRel A D nu nq (i + 1) U Q) (hV : V.length = m + 2) (lV : Lim V) (hD : val V = D) (hi : i + (m + 3) ≤ nu) (hb : 32768 ≤ nth V (m + 1)) :
    Top ((U.drop i).take (m + 3)) V m (val ((U.drop i).take (m + 3)) / val V) :=
  ⟨by rw [List.length_take, List.length_drop, h.1]; omega, hV, lim_take (lim_drop h.2.1 _) _, lV, hb, (h.low hV lV hD hi).1, rfl⟩
theorem three_parts {U : List Nat} (i k : Nat) : U = U.take i ++ ((U.drop i).take k ++ U.drop (i + k)) := by
  rw [← List.drop_drop, List.take_append_drop, List.take_append_drop]
theorem LongRel.next {A D nu nq i m : Nat} {U Q V Y : List Nat} (h : LongRel A D nu nq (i + 1) U Q) (hV : V.length = m + 2) (lV : Lim V) (hD : val V = D) (hi : i + (m + 3) ≤ nu) (hb : 32768 ≤ nth V (m + 1)) (hq : i < nq)
    (hY : Y.length = m + 3) (lY : Lim Y) (hv : val Y = val ((U.drop i).take (m + 3)) % val V) :
    LongRel A D nu nq i (U.take i ++ (Y ++ U.drop (i + (m + 3)))) (Q.set i (val ((U.drop i).take (m + 3)) / val V)) := by
  have t := h.top hV lV hD hi hb
  have hlow := h.low hV lV hD hi
  obtain ⟨h1, h2, h3, h4, h5, h6⟩ := h
  have hpos := t.v_pos
  have hmod := Nat.mod_lt (val ((U.drop i).take (m + 3))) hpos
  have hdm := Nat.div_add_mod (val ((U.drop i).take (m + 3))) (val V)
  have hL := val_lt (lim_take h2 i)
  rw [List.length_take, Nat.min_eq_left (by omega)] at hL
  have hval : val (U.take i ++ (Y ++ U.drop (i + (m + 3)))) = val (U.take i) + 65536 ^ i * val Y := by
    rw [val_append, val_append, hlow.2.2, List.length_take, Nat.min_eq_left (by omega)]
    simp
  generalize hX : val ((U.drop i).take (m + 3)) = x at *
  refine ⟨?_, ?_, by rw [List.length_set, h3], lim_set h4 t.q_lt, ?_, ?_⟩
  · simp only [List.length_append, List.length_take, List.length_drop]; omega
  · exact lim_append.2 ⟨lim_take h2 _, lim_append.2 ⟨lY, lim_drop h2 _⟩⟩
  · rw [hval, hv, ← hD]
    have e : 65536 ^ i * (x % val V + 1) ≤ 65536 ^ i * val V := Nat.mul_le_mul_left _ hmod
    rw [Nat.mul_add, Nat.mul_one] at e
    rw [Nat.mul_comm (val V)]
    omega
  · rw [h6, hval, hv, hlow.2.1, drop_set_self (by omega)]
    simp only [val]
    have e1 : 65536 ^ i * x = 65536 ^ i * (val V * (x / val V)) + 65536 ^ i * (x % val V) := by rw [← Nat.mul_add, hdm]
    have e2 : D * (65536 ^ i * (x / val V + 65536 * val (Q.drop (i + 1)))) = 65536 ^ i * (val V * (x / val V)) + D * (65536 ^ (i + 1) * val (Q.drop (i + 1))) := by
      rw [hD, Nat.mul_add, Nat.mul_add, Nat.mul_left_comm D, Nat.pow_succ, Nat.mul_assoc]
    rw [e1, e2]
    omega
theorem LongRel.done {A D nu nq : Nat} {U Q : List Nat} (h : LongRel A D nu nq 0 U Q) : val Q = A / D ∧ val U = A % D := by
  obtain ⟨h1, h2, h3, h4, h5, h6⟩ := h
  rw [Nat.pow_zero, Nat.mul_one] at h5
  rw [Nat.pow_zero, Nat.one_mul, List.drop_zero] at h6
  have hD : 0 < D := by omega
  rw [h6]
  constructor
  · rw [Nat.add_mul_div_left _ _ hD, Nat.div_eq_of_lt h5, Nat.zero_add]
  · rw [Nat.add_mul_mod_self_left, Nat.mod_eq_of_lt h5]

theorem bitLen_of {k x : Nat} (h1 : 2 ^ k ≤ x) (h2 : x < 2 ^ (k + 1)) (h3 : x < 2 ^ 64) : Lib.bitLen x = k + 1 := by
  rw [Lib.bitLen_shift k x h1 h3]
  have e : x / 2 ^ k = 1 := by
    rw [Nat.div_eq_iff (Nat.pow_pos (by decide))]
    rw [Nat.pow_succ] at h2
    omega
  rw [e]
  rfl
/-- The leading zeros of a limb that is not 0. -/
theorem zeros_of {x : Nat} (h0 : x ≠ 0) (hx : x < 65536) : ∃ s : Nat, s < 16 ∧ (16 - (Lib.bitLen x : Int)) = (s : Int) ∧ 32768 ≤ 2 ^ s * x ∧ 2 ^ s * (x + 1) ≤ 65536 := by
  have h1 := Nat.log2_self_le h0
  have h2 := Nat.lt_log2_self (n := x)
  generalize Nat.log2 x = k at *
  have hk : k < 16 := by
    rcases Nat.lt_or_ge k 16 with h | h
    · exact h
    · exfalso
      have : (2 : Nat) ^ 16 ≤ 2 ^ k := Nat.pow_le_pow_right (by decide) h
      omega
  refine ⟨15 - k, by omega, ?_, ?_, ?_⟩
  · rw [bitLen_of h1 h2 (by omega)]; omega
  · have e : 2 ^ (15 - k) * 2 ^ k = 32768 := by rw [← Nat.pow_add, show 15 - k + k = 15 by omega]
    have := Nat.mul_le_mul_left (2 ^ (15 - k)) h1
    rw [e] at this
    exact this
  · have e : 2 ^ (15 - k) * 2 ^ (k + 1) = 65536 := by rw [← Nat.pow_add, show 15 - k + (k + 1) = 16 by omega]
    have := Nat.mul_le_mul_left (2 ^ (15 - k)) h2
    rw [e] at this
    exact this

/-- The divisor, shifted up: no limb more, a great top limb. -/
theorem shifted_top {b s m : Nat} {o : List Nat} (hb : (dig b).length = m + 2) (hol : o.length = m + 3) (lo : Lim o) (hv : val o = 2 ^ s * b) (h1 : 32768 ≤ 2 ^ s * nth (dig b) (m + 1)) (h2 : 2 ^ s * (nth (dig b) (m + 1) + 1) ≤ 65536) :
    (o.take (m + 2)).length = m + 2 ∧ val (o.take (m + 2)) = 2 ^ s * b ∧ 32768 ≤ nth (o.take (m + 2)) (m + 1) := by
  have hl : (o.take (m + 2)).length = m + 2 := by rw [List.length_take]; omega
  have e1 : b = val ((dig b).take (m + 1)) + 65536 ^ (m + 1) * nth (dig b) (m + 1) := by
    rw [← val_take_succ', List.take_of_length_le (by omega), val_dig]
  have e2 := val_lt (lim_take (lim_dig b) (m + 1))
  rw [List.length_take, Nat.min_eq_left (by omega)] at e2
  have hb1 : b < 65536 ^ (m + 1) * (nth (dig b) (m + 1) + 1) := by rw [Nat.mul_add]; omega
  have hb2 : 2 ^ s * b < 65536 ^ (m + 2) := by
    have h3 : 2 ^ s * b < 2 ^ s * (65536 ^ (m + 1) * (nth (dig b) (m + 1) + 1)) := Nat.mul_lt_mul_of_pos_left hb1 (Nat.pow_pos (by decide))
    have h4 : 2 ^ s * (65536 ^ (m + 1) * (nth (dig b) (m + 1) + 1)) = 65536 ^ (m + 1) * (2 ^ s * (nth (dig b) (m + 1) + 1)) := Nat.mul_left_comm _ _ _
    have h5 := Nat.mul_le_mul_left (65536 ^ (m + 1)) h2
    have h6 : 65536 ^ (m + 2) = 65536 ^ (m + 1) * 65536 := Nat.pow_succ ..
    omega
  have e3 := val_take_succ' o (m + 2)
  rw [List.take_of_length_le (by omega), hv] at e3
  have e4 : val (o.take (m + 2)) = 2 ^ s * b := by
    rcases Nat.eq_zero_or_pos (nth o (m + 2)) with h | h
    · rw [h, Nat.mul_zero] at e3; omega
    · have : 65536 ^ (m + 2) * 1 ≤ 65536 ^ (m + 2) * nth o (m + 2) := Nat.mul_le_mul_left _ h
      omega
  refine ⟨hl, e4, ?_⟩
  have e5 := val_take_succ' (o.take (m + 2)) (m + 1)
  rw [List.take_of_length_le (by omega), e4] at e5
  have e6 := val_lt (lim_take (lim_take lo (m + 2)) (m + 1))
  rw [List.length_take, Nat.min_eq_left (by omega)] at e6
  have h7 : 65536 ^ (m + 1) * 32768 ≤ 2 ^ s * b := by
    have h3 : 2 ^ s * (65536 ^ (m + 1) * nth (dig b) (m + 1)) ≤ 2 ^ s * b := Nat.mul_le_mul_left _ (by omega)
    have h4 : 2 ^ s * (65536 ^ (m + 1) * nth (dig b) (m + 1)) = 65536 ^ (m + 1) * (2 ^ s * nth (dig b) (m + 1)) := Nat.mul_left_comm _ _ _
    have h5 := Nat.mul_le_mul_left (65536 ^ (m + 1)) h1
    omega
  rcases Nat.lt_or_ge (nth (o.take (m + 2)) (m + 1)) 32768 with h | h
  · exfalso
    have h8 : 65536 ^ (m + 1) * (nth (o.take (m + 2)) (m + 1) + 1) ≤ 65536 ^ (m + 1) * 32768 := Nat.mul_le_mul_left _ h
    rw [Nat.mul_add] at h8
    omega
  · exact h
theorem shifted_lt {a b s m : Nat} (hb : (dig b).length = m + 2) (hs : s < 16) (h1 : 32768 ≤ 2 ^ s * nth (dig b) (m + 1)) (hl : m + 2 ≤ (dig a).length) :
    2 ^ s * a < 2 ^ s * b * 65536 ^ ((dig a).length - (m + 2) + 1) := by
  have e0 := val_lt (lim_dig a)
  rw [val_dig] at e0
  have e1 : b = val ((dig b).take (m + 1)) + 65536 ^ (m + 1) * nth (dig b) (m + 1) := by
    rw [← val_take_succ', List.take_of_length_le (by omega), val_dig]
  have h7 : 65536 ^ (m + 1) * 32768 ≤ 2 ^ s * b := by
    have h3 : 2 ^ s * (65536 ^ (m + 1) * nth (dig b) (m + 1)) ≤ 2 ^ s * b := Nat.mul_le_mul_left _ (by omega)
    have h4 : 2 ^ s * (65536 ^ (m + 1) * nth (dig b) (m + 1)) = 65536 ^ (m + 1) * (2 ^ s * nth (dig b) (m + 1)) := Nat.mul_left_comm _ _ _
    have h5 := Nat.mul_le_mul_left (65536 ^ (m + 1)) h1
    omega
  have h8 := Nat.mul_le_mul_right (65536 ^ ((dig a).length - (m + 2) + 1)) h7
  have e2 : 65536 ^ (m + 1) * 32768 * 65536 ^ ((dig a).length - (m + 2) + 1) = 32768 * 65536 ^ (dig a).length := by
    rw [Nat.mul_comm (65536 ^ (m + 1)), Nat.mul_assoc, ← Nat.pow_add, show m + 1 + ((dig a).length - (m + 2) + 1) = (dig a).length by omega]
  have h9 : (2 : Nat) ^ s ≤ 2 ^ 15 := Nat.pow_le_pow_right (by decide) (by omega)
  have h10 : 2 ^ s * a < 32768 * 65536 ^ (dig a).length := by
    have p1 : 2 ^ s * a ≤ 32768 * a := Nat.mul_le_mul_right _ h9
    have p2 : 32768 * a < 32768 * 65536 ^ (dig a).length := Nat.mul_lt_mul_of_pos_left e0 (by decide)
    omega
  omega

theorem lz_any (x s : Nat) (w : World) (hx : x < 65536) (hs : (16 - (Lib.bitLen x : Int)) = (s : Int)) :
    Calls Tryz.prog 148 #[.int .u16 (x : Int)] w fun e w' => e = .returned (.int .i64 (s : Int)) ∧ w = w' := by
  refine (Tryz.bits_LeadingZeros16 (x : Int) w (by omega) (by omega)).mono ?_
  rintro e w' ⟨he, hw⟩
  rw [Int.toNat_natCast, hs] at he
  exact ⟨he, hw.symm⟩
theorem shiftedUp_n (A : Option Addr) (c s n : Nat) (xs : List Nat) (w : World) (hs : Sl w .u16 A xs) (hx : Lim xs) (hs16 : s < 16) (hn : xs.length = n) (hl : n ≤ 1000000000) :
    Calls Tryz.prog 149 #[.slice A n c, .int .i64 s] w fun e w' => ∃ o, e = .returned (.slice (some ⟨w.heap.size, 0, none⟩) (n + 1) (n + 1)) ∧ o.length = n + 1 ∧ Lim o ∧ val o = 2 ^ s * val xs ∧ Row w' w.heap.size 92 .u16 o ∧ Below w.heap.size w w' := by
  subst hn
  exact shiftedUp_any A c s xs w hs hx hs16 hl
theorem shiftDown_n (g c s n : Nat) (xs : List Nat) (w : World) (hp : Pre w g 92 .u16 xs) (hx : Lim xs) (hs16 : s < 16) (hn : xs.length = n) (hl : n ≤ 1000000000) :
    Calls Tryz.prog 151 #[.slice (some ⟨g, 0, none⟩) n c, .int .i64 s] w fun e w' => e = .returned (.tuple #[]) ∧ ∃ o, o.length = n ∧ Lim o ∧ val o = val xs / 2 ^ s ∧ Pre w' g 92 .u16 o ∧ w.grownBy w' (some g) := by
  subst hn
  refine (shiftDown_any g c s xs w hp hx hs16 hl).mono ?_
  rintro e w' ⟨he, o, hd, hp', hg⟩
  exact ⟨he, o, hd.1, hd.2.1, down_val hs16 hd.1 hd.2.2.2, hp', hg⟩

theorem digit_n (g gv j m n n1 cu cv q : Nat) (L X R V : List Nat) (w : World) (hp : Pre w g 92 .u16 (L ++ (X ++ R))) (hv : Pre w gv 92 .u16 V) (hne : gv ≠ g)
    (hn : n = m + 2) (hn1 : n1 = m + 3) (hL : L.length = j) (t : Top X V m q) (hbig : j + m ≤ 900000000) (hcu : m + 3 ≤ cu) (hcu2 : cu ≤ 2000000000) :
    Calls Tryz.prog 150 #[.slice (some ⟨g, j, none⟩) n1 cu, .slice (some ⟨gv, 0, none⟩) n cv] w fun e w' =>
      e = .returned (.int .u16 (q : Nat)) ∧ ∃ (Y : List Nat), Y.length = m + 3 ∧ Lim Y ∧ val Y = val X % val V ∧ Pre w' g 92 .u16 (L ++ (Y ++ R)) ∧ w.grownBy w' (some g) := by
  subst hn
  subst hn1
  exact digit_any g gv j m cu cv q L X R V w hp hv hne hL t hbig hcu hcu2

set_option maxRecDepth 100000 in
set_option maxHeartbeats 4000000 in
theorem divLong_any (A B : Option Addr) (c d a b m n la : Nat) (w : World) (hs : Sl w .u16 A (dig a)) (hs2 : Sl w .u16 B (dig b)) (hb : (dig b).length = m + 2) (hn : n = m + 2) (hla : (dig a).length = la) (hl : n ≤ la) (hbig : la ≤ 400000000) :
    Calls Tryz.prog 128 #[.slice A la c, .slice B n d] w fun e w' => ∃ v u, e = .returned (.tuple #[v, u]) ∧ Nm w' v (a / b) ∧ Nm w' u (a % b) ∧ Below w.heap.size w w' := by
  have hb0 : b ≠ 0 := by intro e; subst e; rw [dig_zero] at hb; simp at hb
  have htop := dig_last hb0
  rw [hb, show m + 2 - 1 = m + 1 by omega] at htop
  have hlim := lim_nth (lim_dig b) (m + 1)
  obtain ⟨s, hs16, hsz, hn1, hn2⟩ := zeros_of htop hlim
  obtain ⟨bd, rfl, hb1, hcell⟩ := hs2 (m + 1) (by omega)
  rw [show m + 1 = n - 1 by omega] at hcell htop hlim hsz hn1 hn2
  obtain ⟨i0, hi, hz0, hz1, hz2⟩ := info_parts Tryz.info16
  have hmk := fun w => run_make_rowOf (P := Tryz.prog) 22 92 i0 .u16 ((la : Int) - (n : Int) + 1) (la - n + 1) w Tryz.underlying22 hi hz0 hz1 (by omega) (by omega) (by omega)
  have hn2' : 2 ≤ n := by omega
  have Hb := hid hb
  have HN := hid hn
  have Hla := hid hla
  have Hn := hid (And.intro hsz (And.intro hn1 hn2))
  clear hi hz0 hz1 hz2 hb hla htop hsz hn1 hn2 hn
  go_enter Tryz.func128, Tryz.ntmps128
  go_wp2_with fail
  refine (lz_any _ s _ hlim Hn.out.1).mono ?_
  rintro e w' ⟨rfl, rfl⟩
  go_wp2_with fail
  refine (shiftedUp_n (some bd) d s n (dig b) _ hs2 (lim_dig b) hs16 (Hb.out.trans HN.out.symm) (by omega)).mono ?_
  rintro e w1 ⟨o1, rfl, ho1, lo1, hv1, hrow1, hbel1⟩
  have V := shifted_top Hb.out (by rw [ho1, HN.out]) lo1 (by rw [hv1, val_dig]) (by have := Hn.out.2.1; rwa [show n - 1 = m + 1 by have := HN.out; omega] at this) (by have := Hn.out.2.2; rwa [show n - 1 = m + 1 by have := HN.out; omega] at this)
  have HV := hid V
  clear hcell V hlim
  have Ho1 := hid (And.intro ho1 hv1)
  clear ho1 hv1
  go_wp2_with fail
  refine (shiftedUp_n A c s la (dig a) _ (hs.below hbel1) (lim_dig a) hs16 Hla.out (by omega)).mono ?_
  rintro e w2 ⟨o2, rfl, ho2, lo2, hv2, hrow2, hbel2⟩
  have Ho2 := hid (And.intro ho2 hv2)
  clear ho2 hv2
  have hsz1 := hbel1.size
  have hsz2 := hbel2.size
  have hl1 := hrow1.lt
  have hl2 := hrow2.lt
  have Hst := hid (LongRel.start (nq := la - n + 1) (U := o2) Ho2.out.1 lo2 (by rw [Ho2.out.2, val_dig]) (show 2 ^ s * a < 2 ^ s * b * 65536 ^ (la - n + 1) from by
    have h := shifted_lt (a := a) Hb.out hs16 (by have := Hn.out.2.1; rwa [show n - 1 = m + 1 by have := HN.out; omega] at this) (by rw [Hla.out]; have := HN.out; omega)
    rwa [Hla.out, show m + 2 = n from HN.out.symm] at h))
  have hbel3 : Below w.heap.size w (w2.alloc (.cells (rowOf .u16 (List.replicate (la - n + 1) 0)) 92)) := (hbel1.trans (hbel2.mono hsz1)).alloc (by omega) _
  have hpu : Pre (w2.alloc (.cells (rowOf .u16 (List.replicate (la - n + 1) 0)) 92)) w1.heap.size 92 .u16 o2 := hrow2.pre.below ((Below.refl _ _).alloc (Nat.le_refl _) _) hl2
  have hpv : Pre (w2.alloc (.cells (rowOf .u16 (List.replicate (la - n + 1) 0)) 92)) w.heap.size 92 .u16 (o1.take (m + 2)) := ((hrow1.pre.take (m + 2)).below hbel2 hl1).below ((Below.refl _ _).alloc (Nat.le_refl _) _) (by omega)
  have Hd0 := hid (show w.heap.size ≠ w1.heap.size ∧ w1.heap.size ≠ w2.heap.size ∧ w.heap.size ≠ w2.heap.size from ⟨by omega, by omega, by omega⟩)
  have lV := lim_take lo1 (m + 2)
  go_wp2
  go_loopw [9] (fun jv wr => ∃ (k : Nat) (U Q : List Nat), k ≤ la - n + 1 ∧ jv = .int .i64 ((k : Int) - 1) ∧ LongRel (2 ^ s * a) (2 ^ s * b) (la + 1) (la - n + 1) k U Q ∧ Pre wr w1.heap.size 92 .u16 U ∧ Pre wr w.heap.size 92 .u16 (o1.take (m + 2)) ∧ Row wr w2.heap.size 92 .u16 Q ∧ Below w.heap.size w wr) (fun jv _ => (intOf jv + 1).toNat)
  case atStart => exact ⟨la - n + 1, o2, _, Nat.le_refl _, by go_num, Hst.out, hpu, hpv, Row.new _ _ _ _, hbel3⟩
  case round =>
    obtain ⟨k, U, Q, hk, rfl, hr, hu, hv, hq, hbel⟩ := hrel
    clear hpu hpv hbel3 hmk hrow1 hrow2 Hst
    by_cases h0 : 0 < k
    · obtain ⟨i, rfl⟩ : ∃ i, k = i + 1 := ⟨k - 1, by omega⟩
      rw [show ((i + 1 : Nat) : Int) - 1 = (i : Int) by omega]
      have Hr := hid hr
      have htp := hr.top HV.out.1 lV HV.out.2.1 (by have := HN.out; omega) HV.out.2.2
      obtain ⟨qd, hqd⟩ : ∃ qd, qd = val ((U.drop i).take (m + 3)) / val (o1.take (m + 2)) := ⟨_, rfl⟩
      rw [← hqd] at htp
      have hql := htp.q_lt
      have Hqd := hid hqd
      have hparts := three_parts (U := U) i (m + 3)
      have hu2 := hu
      rw [hparts] at hu2
      have Hul := hid hr.1
      have Hql := hid hr.2.2.1
      clear hr hparts hqd
      go_wp2_with fail
      refine (digit_n w1.heap.size w.heap.size i m n (i + n + 1 - i) (la + 1 - i) (n + 1) qd (U.take i) ((U.drop i).take (m + 3)) (U.drop (i + (m + 3))) (o1.take (m + 2)) wr hu2 hv Hd0.out.1 HN.out (by have := HN.out; omega) (by rw [List.length_take, Hul.out]; omega) htp (by have := HN.out; omega) (by have := HN.out; omega) (by omega)).mono ?_
      rintro e w4 ⟨rfl, Y, hYl, lY, hYv, hpY, hgr⟩
      have Hn2 := hid (Hr.out.next HV.out.1 lV HV.out.2.1 (by have := HN.out; omega) HV.out.2.2 (by omega) hYl lY hYv)
      clear hYl hYv
      have hq4 := hq.grown hgr (by simpa using Hd0.out.2.1.symm)
      have hv4 := hv.grown hgr (by simpa using Hd0.out.1)
      have hb4 := hbel.grown hgr (Nat.le_trans hsz1 (Nat.le_trans hsz2 (Nat.le_of_lt hq.lt) |> fun h => by omega)) (fun k hk => by injection hk with hk; omega)
      have hc4 := hq4.cell (i := i) (by have := Hql.out; omega)
      have hf4 := hq4.frozen i
      have hg5 := gb_set (World.grownBy.refl w4 (some w2.heap.size)) i (.int .u16 (qd : Int))
      clear hu hu2 hq hv hbel hgr htp
      go_wp2
      go_roundw
      case rel =>
        refine ⟨i, _, _, by omega, rfl, ?_, hpY.grown hg5 (by simpa using Hd0.out.2.1), hv4.grown hg5 (by simpa using Hd0.out.2.2), hq4.set i qd, hb4.setCell (p := ⟨w2.heap.size, i, none⟩) (by show w.heap.size ≤ w2.heap.size; omega) _⟩
        have h := Hn2.out
        rwa [← Hqd.out] at h
      case measure => simp [intOf]
    · obtain rfl : k = 0 := by omega
      have Hdn := hid hr.done
      have Hul := hid hr.1
      have Hql := hid hr.2.2.1
      have lU := hr.2.1
      have lQ := hr.2.2.2.1
      have hUlt := hr.2.2.2.2.1
      rw [Nat.pow_zero, Nat.mul_one] at hUlt
      have HUv := hid (show val (U.take n) = val U from by
        have h1 := val_lt lV
        rw [HV.out.1, HV.out.2.1] at h1
        have h2 := val_split (l := U) n (by rw [Hul.out]; omega)
        have h3 := HN.out
        subst h3
        rcases Nat.eq_zero_or_pos (val (U.drop (m + 2))) with h | h
        · rw [h, Nat.mul_zero] at h2; omega
        · have : 65536 ^ (m + 2) * 1 ≤ 65536 ^ (m + 2) * val (U.drop (m + 2)) := Nat.mul_le_mul_left _ h
          omega)
      clear hr hUlt
      go_wp2_with fail
      refine (shiftDown_n w1.heap.size (la + 1) s n (U.take n) wr (hu.take n) (lim_take lU n) hs16 (by rw [List.length_take, Hul.out]; omega) (by omega)).mono ?_
      rintro e w4 ⟨rfl, O, hOl, lO, hOv, hpO, hgr⟩
      have HOl := hid hOl
      have Hres := hid (show val O = a % b ∧ val Q = a / b from by
        rw [hOv, HUv.out, Hdn.out.1, Hdn.out.2, Nat.mul_mod_mul_left, Nat.mul_div_right _ (Nat.pow_pos (by decide)), Nat.mul_div_mul_left _ _ (Nat.pow_pos (by decide))]
        exact ⟨rfl, rfl⟩)
      clear hOl hOv
      have hq4 := hq.grown hgr (by simpa using Hd0.out.2.1.symm)
      have hb4 := hbel.grown hgr (by have := hq.lt; omega) (fun k hk => by injection hk with hk; omega)
      go_wp2_with fail
      refine (trim_nm _ _ _ Q _ hq4.sl lQ Hql.out (Nat.le_refl _) (by unfold maxLen; omega)).mono ?_
      rintro e w5 ⟨v, rfl, hnv, rfl⟩
      go_wp2_with fail
      refine (trim_nm _ _ _ O _ hpO.sl lO HOl.out (by omega) (by unfold maxLen; omega)).mono ?_
      rintro e w5 ⟨u, rfl, hnu, rfl⟩
      go_wp2
      go_ret2
      rw [Hres.out.1] at hnu
      rw [Hres.out.2] at hnv
      exact ⟨v, u, rfl, hnv, hnu, hb4⟩

end Go.Proofs.YtffipjofefemiaaGreatDoor

namespace Go.Proofs.YtffipjofefemiaaGreatDoor
open Go.RowKit Kb

set_option maxRecDepth 100000 in
set_option maxHeartbeats 1000000 in
theorem clone_empty (ad : Addr) (c : Nat) (w : World) :
    Calls Tryz.prog 115 #[.slice (some ad) 0 c] w fun e w' => ∃ v, e = .returned v ∧ Nm w' v 0 ∧ Below w.heap.size w w' := by
  obtain ⟨i0, hi, hz0, hz1, hz2⟩ := info_parts Tryz.info16
  have hnil := fun w => Lib.run_eql_slice_nil (P := Tryz.prog) w 22 92 (some ad) 0 c 0 0 Tryz.underlying22
  simp only [Option.isNone_some] at hnil
  go_enter Tryz.func115, Tryz.ntmps115
  go_wp2_with (at_builtin; refine wpList_append_own _ rfl (.tmp 5) (.tmp 6) 22 rfl w.heap.size 92 i0 (.int .u16 0) 1 2 Tryz.underlying22 hi hz0 hz1 hz2 rfl (by decide) (.slice (some ⟨w.heap.size, 0, none⟩) 0 0) 0 [] rfl (World.ownsRow_made _ _ 0 (Nat.le_refl _) (by unfold maxLen; omega) rfl) ad 0 c [] rfl (by simp) (by simp) (by simp) (by unfold maxLen; omega) (by omega) (by simp) ?_)
  intro v' w1 hown hgrow hnn
  have hbel := ((Below.refl w.heap.size w).alloc (Nat.le_refl _) (.cells #[] 92)).grown hgrow (by simp) (fun k hk => by simp [Value.ownBlock] at hk; omega)
  have hnm : Nm w1 v' 0 := by
    rcases hown.2 with ⟨e, _⟩ | ⟨g, cap, cur, e, _, _, h1, h2, _⟩
    · rw [e]; exact nm_nil _
    · exact ⟨_, cap, by rw [e, dig_zero]; rfl, by rw [dig_zero]; exact Sl.nil _ _ _, by rw [dig_zero]; exact Nat.zero_le _, h2⟩
  clear hown hgrow hnn hnil
  go_wp2
  go_ret
  exact ⟨v', rfl, hnm, hbel⟩

theorem clone_nm {v : Value} {a : Nat} {w : World} (h : Nm w v a) (ha : (dig a).length ≤ 1000000000) :
    Calls Tryz.prog 115 #[v] w fun e w' => ∃ v, e = .returned v ∧ Nm w' v a ∧ Below w.heap.size w w' := by
  obtain ⟨A, c, rfl, h1, h2, h3⟩ := h
  by_cases h0 : a = 0
  · subst h0
    rw [dig_zero] at *
    rcases A with _ | ad
    · refine (Tryz.slices_Clone_nil 0 c w).mono ?_
      rintro e w' ⟨rfl, rfl⟩
      exact ⟨_, rfl, nm_nil _, Below.refl _ _⟩
    · exact clone_empty ad c w
  · have hne : dig a ≠ [] := fun e => h0 (dig_nil_iff.1 e)
    refine (clone_any A c (dig a) w h1 hne ha).mono ?_
    rintro e w' ⟨g, c', rfl, _, hc1, hc2, hp, hb⟩
    exact ⟨_, rfl, ⟨_, c', rfl, hp.sl, hc1, hc2⟩, hb⟩

set_option maxRecDepth 100000 in
set_option maxHeartbeats 2000000 in
theorem divLimbs_less {v u : Value} {a b : Nat} {w : World} (h : Nm w v a) (k : Nm w u b) (hlt : a < b) (ha : (dig a).length ≤ 400000000) :
    Calls Tryz.prog 97 #[v, u] w fun e w' => ∃ q r, e = .returned (.tuple #[q, r]) ∧ Nm w' q (a / b) ∧ Nm w' r (a % b) ∧ Below w.heap.size w w' := by
  have Hs := hid (sgn_lt hlt)
  have Hd := hid (And.intro (Nat.div_eq_of_lt hlt) (Nat.mod_eq_of_lt hlt))
  clear hlt
  go_enter Tryz.func97, Tryz.ntmps97
  go_wp2_with fail
  refine (compareLimbs_nm h k).mono ?_
  rintro e w1 ⟨rfl, hq⟩
  rw [Hs.out]
  go_wp2_with fail
  refine (clone_nm (h.qt hq) (by omega)).mono ?_
  rintro e w2 ⟨r, rfl, hr, hb⟩
  go_wp2
  go_ret2
  refine ⟨_, r, rfl, ?_, ?_, (hq.below _).trans (hb.mono (by have := (hq.below 0).size; omega))⟩
  · rw [Hd.out.1]; exact nm_nil _
  · rw [Hd.out.2]; exact hr

theorem hide_all {p : World → Prop} (h : ∀ W, p W) : Hid (∀ W, p W) := h
theorem show_all {p : World → Prop} (h : Hid (∀ W, p W)) : ∀ W, p W := h

set_option maxRecDepth 100000 in
set_option maxHeartbeats 2000000 in
theorem divLimbs_words {v u : Value} {a b : Nat} {w : World} (h : Nm w v a) (k : Nm w u b) (hge : b ≤ a) (hb0 : b ≠ 0) (ha : (dig a).length ≤ 4) :
    Calls Tryz.prog 97 #[v, u] w fun e w' => ∃ q r, e = .returned (.tuple #[q, r]) ∧ Nm w' q (a / b) ∧ Nm w' r (a % b) ∧ Below w.heap.size w w' := by
  have h4 := lt_of_dig_length ha
  rw [show (65536 : Nat) ^ 4 = 18446744073709551616 from rfl] at h4
  have hq1 : a / b < 18446744073709551616 := Nat.lt_of_le_of_lt (Nat.div_le_self _ _) h4
  have hr1 : a % b < 18446744073709551616 := Nat.lt_of_le_of_lt (Nat.mod_le _ _) h4
  have Hs := hid (show sgn a b = 0 ∨ sgn a b = 1 from by
    rcases Nat.lt_or_ge b a with h | h
    · exact .inr (sgn_gt h)
    · exact .inl (by rw [show a = b by omega]; exact sgn_eq b))
  have Hb := hid (And.intro h4 (Nat.lt_of_le_of_lt hge h4))
  have Hq := hid (And.intro hq1 hr1)
  have hbz : ((b : Int) == 0) = false := by rw [beq_eq_false_iff_ne]; omega
  have hbp : (0 : Int) < (b : Int) := by omega
  have hbn : ¬ (b : Int) = 0 := by omega
  have hbn2 : ¬ b = 0 := hb0
  obtain ⟨q1, hq1'⟩ : ∃ q1, q1 = a / b := ⟨_, rfl⟩
  obtain ⟨r1, hr1'⟩ : ∃ r1, r1 = a % b := ⟨_, rfl⟩
  have hwq : IntKind.u64.wrap ((a : Int) / (b : Int)) = (q1 : Int) := by rw [hq1', ← Int.natCast_ediv]; exact u64_of hq1
  have hwr : ((a : Int).tmod (b : Int)) = (r1 : Int) := by rw [hr1', Int.tmod_eq_emod_of_nonneg (Int.natCast_nonneg a), Int.natCast_emod]
  rw [← hq1'] at Hq ⊢
  rw [← hr1'] at Hq ⊢
  clear hq1' hr1' hq1 hr1
  obtain ⟨A, c, rfl, g1, g2, g3⟩ := id h
  clear hge hb0 h4
  go_enter Tryz.func97, Tryz.ntmps97
  go_wp2_with fail
  refine (compareLimbs_nm h k).mono ?_
  rintro e w1 ⟨rfl, hq⟩
  have h' := h.qt hq
  have k' := k.qt hq
  rcases Hs.out with hs | hs
  all_goals
    rw [hs]
    have hs2 := hid hs
    clear hs
    go_wp2_with fail
    refine (wordOf_nm h' (by rw [show (65536 : Nat) ^ 4 = 18446744073709551616 from rfl]; exact Hb.out.1)).mono ?_
    rintro e w2 ⟨rfl, rfl⟩
    go_wp2_with fail
    refine (wordOf_nm k' (by rw [show (65536 : Nat) ^ 4 = 18446744073709551616 from rfl]; exact Hb.out.2)).mono ?_
    rintro e w2 ⟨rfl, rfl⟩
    go_wp2_with fail
    go_region_with (first
      | (go_at_call 99; with_reducible refine (limbsOf_any q1 _ Hq.out.1).mono ?_; rintro e w' ⟨vq, rfl, hnq, hbq⟩)
      | (go_at_call 99; with_reducible refine (limbsOf_any r1 _ Hq.out.2).mono ?_; rintro e w' ⟨vr, rfl, hnr, hbr⟩))
    go_wp2
    go_ret2
    exact ⟨vq, vr, rfl, hnq.below hbr, hnr, bthen (bthen (hq.drew.below w.heap.size) hbq (Nat.le_refl _)) hbr (Nat.le_refl _)⟩

set_option maxRecDepth 100000 in
set_option maxHeartbeats 2000000 in
theorem divLimbs_digit {v u : Value} {a b : Nat} {w : World} (h : Nm w v a) (k : Nm w u b) (hge : b ≤ a) (hb1 : (dig b).length = 1) (ha4 : 4 < (dig a).length) (ha : (dig a).length ≤ 400000000) :
    Calls Tryz.prog 97 #[v, u] w fun e w' => ∃ q r, e = .returned (.tuple #[q, r]) ∧ Nm w' q (a / b) ∧ Nm w' r (a % b) ∧ Below w.heap.size w w' := by
  have hs0 : 0 ≤ sgn a b := by
    rcases Nat.lt_or_ge b a with h | h
    · rw [sgn_gt h]; decide
    · rw [show a = b by omega, sgn_eq]; decide
  have hnn : ¬ sgn a b < 0 := by omega
  obtain ⟨A, c, rfl, g1, g2, g3⟩ := id h
  obtain ⟨B, d, rfl, k1, k2, k3⟩ := id k
  have hb0 : b ≠ 0 := by intro e; subst e; rw [dig_zero] at hb1; simp at hb1
  have e1 : dig b = [b] := by
    obtain ⟨x, hx⟩ := List.length_eq_one_iff.1 hb1
    have := val_dig b
    rw [hx] at this ⊢
    simp [val] at this
    rw [this]
  have hbl : b < 65536 := lim_dig b b (by rw [e1]; simp)
  obtain ⟨bd, rfl, hbb, hcell⟩ := k1 0 (by omega)
  rw [addr_zero, e1, nth_cons_zero] at hcell
  have hbl1 : (((dig b).length : Int) == 1) = true := by rw [hb1]; rfl
  have hane : dig a ≠ [] := by intro e; rw [e] at ha4; simp at ha4
  have hlp : 0 < (dig b).length := by omega
  have Hb1 := hid hb1
  have E1 := hid e1
  clear hb1 e1
  generalize hsg : sgn a b = sg at *
  have Hsg := hid hsg
  clear hsg
  go_enter Tryz.func97, Tryz.ntmps97
  go_wp2_with fail
  refine (compareLimbs_nm h k).mono ?_
  rintro e w1 ⟨rfl, hq⟩
  rw [Hsg.out]
  have hcell1 : w1.cell? bd = some (.int .u16 (b : Nat)) := by
    obtain ⟨n, rfl⟩ := hq; exact hcell
  have hsb := hid (hq.below w.heap.size)
  have g1' := g1.qt hq
  clear hcell h k
  go_wp2_with fail
  refine (clone_any A c (dig a) _ g1' hane (by omega)).mono ?_
  rintro e w2 ⟨g, c', rfl, hg, hc1, hc2, hp, hb2⟩
  have hcell2 : w2.cell? bd = some (.int .u16 (b : Nat)) := by
    have := (hq.below 0).size
    rw [hb2.cell (p := bd) (by omega)]; exact hcell1
  go_wp2_with fail
  refine (divideBy_any g c' b (dig a) _ hp (lim_dig a) (by omega) hbl (by omega)).mono ?_
  rintro e w3 ⟨rfl, o, hol, lo, hov, hpo, hgr⟩
  have hb3 := (hsb.out.trans (hb2.mono (hq.below 0).size)).grown hgr (by have := (hq.below 0).size; have := hb2.size; omega) (fun k hk => by injection hk with hk; have := (hq.below 0).size; omega)
  have Hol := hid hol
  have Hov := hid hov
  clear hol hov hcell1 hcell2 hb2 hp hgr
  go_wp2_with fail
  refine (trim_nm _ c' _ o _ hpo.sl lo Hol.out hc1 hc2).mono ?_
  rintro e w4 ⟨q, rfl, hnq, rfl⟩
  go_wp2_with fail
  have hrest : IntKind.u64.wrap ((val (dig a) : Int) % (b : Int)) = ((a % b : Nat) : Int) := by
    rw [val_dig, ← Int.natCast_emod]
    exact u64_of (by have := Nat.mod_lt a (show 0 < b by omega); omega)
  rw [hrest]
  clear hrest
  refine (limbsOf_any (a % b) _ (by have := Nat.mod_lt a (show 0 < b by omega); omega)).mono ?_
  rintro e w4 ⟨r, rfl, hnr, hb4⟩
  go_wp2
  go_ret2
  rw [Hov.out, val_dig] at hnq
  exact ⟨q, r, rfl, hnq.below hb4, hnr, bthen hb3 hb4 (Nat.le_refl _)⟩

set_option maxRecDepth 100000 in
set_option maxHeartbeats 2000000 in
theorem divLimbs_long {v u : Value} {a b : Nat} {w : World} (h : Nm w v a) (k : Nm w u b) (hge : b ≤ a) (hb2 : 2 ≤ (dig b).length) (ha4 : 4 < (dig a).length) (ha : (dig a).length ≤ 400000000) :
    Calls Tryz.prog 97 #[v, u] w fun e w' => ∃ q r, e = .returned (.tuple #[q, r]) ∧ Nm w' q (a / b) ∧ Nm w' r (a % b) ∧ Below w.heap.size w w' := by
  have hs0 : 0 ≤ sgn a b := by
    rcases Nat.lt_or_ge b a with h | h
    · rw [sgn_gt h]; decide
    · rw [show a = b by omega, sgn_eq]; decide
  have hnn : ¬ sgn a b < 0 := by omega
  have hlm := dig_length_mono hge
  obtain ⟨A, c, rfl, g1, g2, g3⟩ := id h
  obtain ⟨B, d, rfl, k1, k2, k3⟩ := id k
  have hbl1 : (((dig b).length : Int) == 1) = false := by rw [beq_eq_false_iff_ne]; omega
  generalize hsg : sgn a b = sg at *
  have Hsg := hid hsg
  clear hsg
  go_enter Tryz.func97, Tryz.ntmps97
  go_wp2_with fail
  refine (compareLimbs_nm h k).mono ?_
  rintro e w1 ⟨rfl, hq⟩
  rw [Hsg.out]
  have hsb := hid (hq.below w.heap.size)
  have g1' := g1.qt hq
  have k1' := k1.qt hq
  clear h k
  go_wp2_with fail
  refine (divLong_any A B c d a b ((dig b).length - 2) (dig b).length (dig a).length _ g1' k1' (by omega) (by omega) rfl hlm ha).mono ?_
  rintro e w2 ⟨q, r, rfl, hnq, hnr, hb⟩
  go_wp2
  go_ret2
  exact ⟨q, r, rfl, hnq, hnr, bthen hsb.out hb (Nat.le_refl _)⟩

/-- The quotient and the remainder of numbers. -/
theorem divLimbs_nm {v u : Value} {a b : Nat} {w : World} (h : Nm w v a) (k : Nm w u b) (hb : b ≠ 0) (ha : (dig a).length ≤ 400000000) :
    Calls Tryz.prog 97 #[v, u] w fun e w' => ∃ q r, e = .returned (.tuple #[q, r]) ∧ Nm w' q (a / b) ∧ Nm w' r (a % b) ∧ Below w.heap.size w w' := by
  rcases Nat.lt_or_ge a b with hlt | hge
  · exact divLimbs_less h k hlt ha
  · by_cases h4 : (dig a).length ≤ 4
    · exact divLimbs_words h k hge hb h4
    · have hl : (dig b).length ≠ 0 := fun e => hb (dig_nil_iff.1 (List.eq_nil_of_length_eq_zero e))
      by_cases h1 : (dig b).length = 1
      · exact divLimbs_digit h k hge h1 (by omega) ha
      · exact divLimbs_long h k hge (by omega) (by omega) ha

end Go.Proofs.YtffipjofefemiaaGreatDoor

namespace Go.Proofs.YtffipjofefemiaaGreatDoor
open Go.RowKit Kb

/-- The integer of a sign and a size. -/
def toZ (neg : Bool) (a : Nat) : Int := if neg then -(a : Int) else (a : Int)
/-- The fields of an integer: a sign, limbs of the value a, perhaps with zeros at their end. -/
def Raw (w : World) (A : Option Addr) (n c a : Nat) : Prop := ∃ xs, xs.length = n ∧ Sl w .u16 A xs ∧ Lim xs ∧ val xs = a ∧ n ≤ c ∧ c ≤ maxLen
theorem Raw.below {w w' : World} {A : Option Addr} {n c a : Nat} (h : Raw w A n c a) (hb : Below w.heap.size w w') : Raw w' A n c a := by
  obtain ⟨xs, h1, h2, h3⟩ := h
  exact ⟨xs, h1, h2.below hb, h3⟩
/-- The value v is the integer z, normalized. -/
def Nz (w : World) (v : Value) (z : Int) : Prop := ∃ A n c, v = .agg #[.bool (decide (z < 0)), .slice A n c] ∧ Nm w (.slice A n c) z.natAbs
theorem Nz.below {w w' : World} {v : Value} {z : Int} (h : Nz w v z) (hb : Below w.heap.size w w') : Nz w' v z := by
  obtain ⟨A, n, c, h1, h2⟩ := h
  exact ⟨A, n, c, h1, h2.below hb⟩
/-- The value v is an integer, perhaps not normalized. -/
def Iz (w : World) (v : Value) (z : Int) : Prop := ∃ neg A n c a, v = .agg #[.bool neg, .slice A n c] ∧ Raw w A n c a ∧ z = toZ neg a
theorem Iz.below {w w' : World} {v : Value} {z : Int} (h : Iz w v z) (hb : Below w.heap.size w w') : Iz w' v z := by
  obtain ⟨neg, A, n, c, a, h1, h2, h3⟩ := h
  exact ⟨neg, A, n, c, a, h1, h2.below hb, h3⟩
theorem Nm.raw {w : World} {A : Option Addr} {n c a : Nat} (h : Nm w (.slice A n c) a) : Raw w A n c a := by
  obtain ⟨A', c', e, h1, h2, h3⟩ := h
  injection e with e1 e2 e3
  subst e1; subst e2; subst e3
  exact ⟨dig a, rfl, h1, lim_dig a, val_dig a, h2, h3⟩
theorem toZ_of (z : Int) : toZ (decide (z < 0)) z.natAbs = z := by
  unfold toZ
  by_cases h : z < 0
  · rw [decide_eq_true h, if_pos rfl]; omega
  · rw [decide_eq_false h, if_neg (by decide)]; omega
theorem natAbs_toZ (neg : Bool) (a : Nat) : (toZ neg a).natAbs = a := by
  unfold toZ; cases neg <;> simp
theorem Nz.iz {w : World} {v : Value} {z : Int} (h : Nz w v z) : Iz w v z := by
  obtain ⟨A, n, c, h1, h2⟩ := h
  exact ⟨_, A, n, c, _, h1, h2.raw, (toZ_of z).symm⟩

/-- No cell of the block holds a number. -/
def NoInt (C : Array Value) : Prop := ∀ (i : Nat) (k : IntKind) (n : Int), C[i]? ≠ some (.int k n)
theorem noInt2 {a b : Value} (ha : ∀ k n, a ≠ .int k n) (hb : ∀ k n, b ≠ .int k n) : NoInt #[a, b] := by
  intro i k n
  match i with
  | 0 => simpa using ha k n
  | 1 => simpa using hb k n
  | j + 2 => simp
theorem noInt4 {a b c d : Value} (ha : ∀ k n, a ≠ .int k n) (hb : ∀ k n, b ≠ .int k n) (hc : ∀ k n, c ≠ .int k n) (hd : ∀ k n, d ≠ .int k n) : NoInt #[a, b, c, d] := by
  intro i k n
  match i with
  | 0 => simpa using ha k n
  | 1 => simpa using hb k n
  | 2 => simpa using hc k n
  | 3 => simpa using hd k n
  | j + 4 => simp
theorem noInt_zero (b : Bool) (A : Option Addr) (n c : Nat) : NoInt #[.bool b, .slice A n c] := noInt2 (fun _ _ => by simp) (fun _ _ => by simp)
section
variable {w w3 : World} {g : Nat} {C : Array Value} {T : TypeId}
/-- Slices of numbers don't lie in a box of other values: they stay when the box is written. -/
theorem Sl.offbox {k : IntKind} {A : Option Addr} {xs : List Nat} (h : Sl w k A xs) (hb : w.heap[g]? = some (.cells C T (0, 0))) (hC : NoInt C) (hg : w.grownBy w3 (some g)) : Sl w3 k A xs := by
  refine h.grown hg fun ad e hx e2 => ?_
  injection e2 with e2
  have hpos : 0 < xs.length := List.length_pos_iff.2 hx
  obtain ⟨ad', e3, _, hc⟩ := h 0 hpos
  rw [e] at e3
  injection e3 with e3
  subst e3
  rw [addr_zero] at hc
  unfold World.cell? at hc
  rw [e2, hb] at hc
  simp only at hc
  split at hc
  · cases hc
  · exact hC _ _ _ hc
theorem Nm.offbox {v : Value} {a : Nat} (h : Nm w v a) (hb : w.heap[g]? = some (.cells C T (0, 0))) (hC : NoInt C) (hg : w.grownBy w3 (some g)) : Nm w3 v a := by
  obtain ⟨A, c, e, h1, h2⟩ := h
  exact ⟨A, c, e, h1.offbox hb hC hg, h2⟩
theorem Nz.offbox {v : Value} {z : Int} (h : Nz w v z) (hb : w.heap[g]? = some (.cells C T (0, 0))) (hC : NoInt C) (hg : w.grownBy w3 (some g)) : Nz w3 v z := by
  obtain ⟨A, n, c, e, h1⟩ := h
  exact ⟨A, n, c, e, h1.offbox hb hC hg⟩
end
theorem gb2 (w : World) (g : Nat) (i j : Nat) (u v : Value) : w.grownBy ((w.setCell ⟨g, i, none⟩ u).setCell ⟨g, j, none⟩ v) (some g) := gb_set (gb_set (World.grownBy.refl _ _) i u) j v

set_option maxRecDepth 100000 in
set_option maxHeartbeats 1000000 in
theorem size_any (neg : Bool) (A : Option Addr) (n c a : Nat) (w : World) (h : Raw w A n c a) :
    Calls Tryz.prog 76 #[.agg #[.bool neg, .slice A n c]] w fun e w' => ∃ v, e = .returned v ∧ Nm w' v a ∧ Below w.heap.size w w' := by
  have hb0 := fun o => (Below.refl w.heap.size w).alloc (Nat.le_refl _) o
  obtain ⟨xs, h1, h2, h3, h4, h5, h6⟩ := h
  have H := hid (And.intro h1 h4)
  clear h1 h4
  go_enter Tryz.func76, Tryz.ntmps76
  go_wp2_with fail
  refine (trim_nm A c n xs _ (h2.below (hb0 _)) h3 H.out.1 h5 h6).mono ?_
  rintro e w' ⟨v, rfl, hv, rfl⟩
  go_wp2
  go_ret
  rw [H.out.2] at hv
  exact ⟨v, rfl, hv, hb0 _⟩

set_option maxRecDepth 100000 in
set_option maxHeartbeats 1000000 in
theorem integer_any (neg : Bool) (A : Option Addr) (n c a : Nat) (w : World) (h : Nm w (.slice A n c) a) :
    Calls Tryz.prog 101 #[.bool neg, .slice A n c] w fun e w' => ∃ v, e = .returned v ∧ Nz w' v (toZ neg a) ∧ Below w.heap.size w w' := by
  have hb0 := fun o => (Below.refl w.heap.size w).alloc (Nat.le_refl _) o
  by_cases h0 : a = 0
  · have hn : n = 0 := by
      obtain ⟨A', c', e, _⟩ := h
      injection e with e1 e2 e3
      rw [h0, dig_zero] at e2
      exact e2
    subst hn
    go_enter Tryz.func101, Tryz.ntmps101
    go_wp2
    refine bodyPost_ret (v := .agg #[.bool false, .slice none 0 0]) (by simp [results, Tryz.results101, go_sem]) rfl ⟨_, rfl, ⟨none, 0, 0, ?_, ?_⟩, hb0 _⟩
    · rw [h0]; cases neg <;> rfl
    · rw [h0]; cases neg <;> exact nm_nil _
  · have hn : n ≠ 0 := by
      obtain ⟨A', c', e, _⟩ := h
      injection e with e1 e2 e3
      intro hn
      rw [hn] at e2
      exact h0 (dig_nil_iff.1 (List.eq_nil_of_length_eq_zero e2.symm))
    have hn' : ((n : Int) == 0) = false := by rw [beq_eq_false_iff_ne]; omega
    go_enter Tryz.func101, Tryz.ntmps101
    go_wp2
    refine bodyPost_ret (v := .agg #[.bool neg, .slice A n c]) (by simp [results, Tryz.results101, go_sem]) rfl ⟨_, rfl, ⟨A, n, c, ?_, ?_⟩, hb0 _⟩
    · unfold toZ
      cases neg
      · rw [if_neg (by decide), decide_eq_false (by omega)]
      · rw [if_pos rfl, decide_eq_true (by omega)]
    · rw [natAbs_toZ]; exact h.below (hb0 _)

theorem integer_nm {neg : Bool} {v : Value} {a : Nat} {w : World} (h : Nm w v a) :
    Calls Tryz.prog 101 #[.bool neg, v] w fun e w' => ∃ v, e = .returned v ∧ Nz w' v (toZ neg a) ∧ Below w.heap.size w w' := by
  obtain ⟨A, c, rfl, _⟩ := id h
  exact integer_any neg A _ c a w h

set_option maxRecDepth 100000 in
set_option maxHeartbeats 1000000 in
theorem sign_any (neg : Bool) (A : Option Addr) (n c a : Nat) (w : World) (h : Raw w A n c a) :
    Calls Tryz.prog 57 #[.agg #[.bool neg, .slice A n c]] w fun e w' => e = .returned (.int .i64 (toZ neg a).sign) ∧ Below w.heap.size w w' := by
  have hb0 := fun o => (Below.refl w.heap.size w).alloc (Nat.le_refl _) o
  have hs : (toZ neg a).sign = if a = 0 then 0 else if neg then -1 else 1 := by
    unfold toZ
    cases neg <;> by_cases h0 : a = 0
    · subst h0; rfl
    · simp [h0]; omega
    · subst h0; rfl
    · simp [h0]; omega
  rw [hs]
  have h' := h.below (hb0 (.cells #[.bool neg, .slice A n c] 24))
  clear hs
  by_cases h0 : a = 0
  · have H0 := hid h0
    rw [if_pos h0]
    clear h0
    go_enter Tryz.func57, Tryz.ntmps57
    go_wp2_with fail
    refine (size_any neg A n c a _ h').mono ?_
    rintro e w1 ⟨v, rfl, hv, hb⟩
    obtain ⟨A', c', rfl, _⟩ := hv
    rw [H0.out, dig_zero, List.length_nil]
    have hb2 := bthen (hb0 _) hb (Nat.le_refl _)
    go_wp2
    go_ret
    exact ⟨rfl, hb2⟩
  · have hd : (((dig a).length : Int) == 0) = false := by
      rw [beq_eq_false_iff_ne]
      intro e
      exact h0 (dig_nil_iff.1 (List.eq_nil_of_length_eq_zero (by omega)))
    have hbx : ∀ w' : World, Below (w.alloc (.cells #[.bool neg, .slice A n c] 24)).heap.size (w.alloc (.cells #[.bool neg, .slice A n c] 24)) w' → w'.cell? ⟨w.heap.size, 0, none⟩ = some (.bool neg) := fun w' hb => by
      rw [hb.cell (p := ⟨w.heap.size, 0, none⟩) (by simp)]
      simp
    rw [if_neg h0]
    go_enter Tryz.func57, Tryz.ntmps57
    go_wp2_with fail
    refine (size_any neg A n c a _ h').mono ?_
    rintro e w1 ⟨v, rfl, hv, hb⟩
    obtain ⟨A', c', rfl, _⟩ := hv
    have hb2 := bthen (hb0 _) hb (Nat.le_refl _)
    have hcell := hbx _ hb
    clear hbx
    go_wp2_with fail
    refine (direction_any _ _).mono ?_
    rintro e w2 ⟨rfl, rfl⟩
    go_wp2
    all_goals go_ret
    all_goals exact ⟨rfl, hb2⟩

theorem addSigned_math (p q : Bool) (a b : Nat) : (p = q → toZ p a + toZ q b = toZ p (a + b)) ∧ (p ≠ q → a < b → toZ p a + toZ q b = toZ q (b - a)) ∧ (p ≠ q → b ≤ a → toZ p a + toZ q b = toZ p (a - b)) := by
  unfold toZ
  refine ⟨?_, ?_, ?_⟩ <;> cases p <;> cases q <;> simp <;> omega

set_option maxRecDepth 100000 in
set_option maxHeartbeats 2000000 in
theorem addSigned_same (p q : Bool) {v u : Value} {a b : Nat} {w : World} (h : Nm w v a) (k : Nm w u b) (hpq : p = q) (ha : (dig a).length ≤ 400000000) (hb : (dig b).length ≤ 400000000) :
    Calls Tryz.prog 112 #[v, .bool p, u, .bool q] w fun e w' => ∃ v, e = .returned v ∧ Nz w' v (toZ p a + toZ q b) ∧ Below w.heap.size w w' := by
    have hb0 := fun o => (Below.refl w.heap.size w).alloc (Nat.le_refl _) o
    subst hpq
    have M := hid ((addSigned_math p p a b).1 rfl)
    have hbq : (p == p) = true := by cases p <;> rfl
    have h' := h.below (hb0 (.cells #[.bool false, .slice none 0 0] 24))
    have k' := k.below (hb0 (.cells #[.bool false, .slice none 0 0] 24))
    go_enter Tryz.func112, Tryz.ntmps112
    go_wp2_with fail
    refine (addLimbs_nm h' k' (by omega) (by omega)).mono ?_
    rintro e w1 ⟨v1, rfl, hv1, hb1⟩
    have hb1' := hb1
    go_wp2_with fail
    refine (integer_nm hv1).mono ?_
    rintro e w2 ⟨v2, rfl, hv2, hb2⟩
    have hb3 := bthen hb1' hb2 (Nat.le_refl _)
    have hb4 := bthen (hb0 _) hb3 (Nat.le_refl _)
    have c0 := box_cell hb3 0
    have c1 := box_cell hb3 1
    have f0 := box_frozen hb3 0
    have f1 := box_frozen hb3 1
    have hz := box_size hb3
    have hbx := hid (box_heap hb3)
    obtain ⟨A, n, c, rfl, hn⟩ := hv2
    simp at c0 c1
    go_wp2
    refine bodyPost_ret (v := .agg #[.bool (decide (toZ p (a + b) < 0)), .slice A n c]) (by simp [results, Tryz.results112, go_sem, c0, c1]) rfl ⟨_, rfl, ⟨A, n, c, by rw [M.out], ?_⟩, (hb4.setCell (p := ⟨w.heap.size, 0, none⟩) (Nat.le_refl _) _).setCell (p := ⟨w.heap.size, 1, none⟩) (Nat.le_refl _) _⟩
    rw [M.out]
    exact hn.offbox hbx.out (noInt_zero _ _ _ _) (gb2 _ _ _ _ _ _)

set_option maxRecDepth 100000 in
set_option maxHeartbeats 2000000 in
theorem addSigned_less (p q : Bool) {v u : Value} {a b : Nat} {w : World} (h : Nm w v a) (k : Nm w u b) (hpq : p ≠ q) (hlt : a < b) (_ha : (dig a).length ≤ 400000000) (hb : (dig b).length ≤ 400000000) :
    Calls Tryz.prog 112 #[v, .bool p, u, .bool q] w fun e w' => ∃ v, e = .returned v ∧ Nz w' v (toZ p a + toZ q b) ∧ Below w.heap.size w w' := by
    have hb0 := fun o => (Below.refl w.heap.size w).alloc (Nat.le_refl _) o
    have M := hid ((addSigned_math p q a b).2.1 hpq hlt)
    have Hs := hid (sgn_lt hlt)
    have hbq : (p == q) = false := by rw [beq_eq_false_iff_ne]; exact hpq
    have h' := h.below (hb0 (.cells #[.bool false, .slice none 0 0] 24))
    have k' := k.below (hb0 (.cells #[.bool false, .slice none 0 0] 24))
    go_enter Tryz.func112, Tryz.ntmps112
    go_wp2_with fail
    refine (compareLimbs_nm h' k').mono ?_
    rintro e wq ⟨rfl, hqt⟩
    rw [Hs.out]
    go_wp2_with fail
    refine (subLimbs_nm (k'.qt hqt) (h'.qt hqt) (by omega) (by omega)).mono ?_
    rintro e w1 ⟨v1, rfl, hv1, hb1⟩
    have hb1' := bthen (hqt.below _) hb1 (Nat.le_refl _)
    go_wp2_with fail
    refine (integer_nm hv1).mono ?_
    rintro e w2 ⟨v2, rfl, hv2, hb2⟩
    have hb3 := bthen hb1' hb2 (Nat.le_refl _)
    have hb4 := bthen (hb0 _) hb3 (Nat.le_refl _)
    have c0 := box_cell hb3 0
    have c1 := box_cell hb3 1
    have f0 := box_frozen hb3 0
    have f1 := box_frozen hb3 1
    have hz := box_size hb3
    have hbx := hid (box_heap hb3)
    obtain ⟨A, n, c, rfl, hn⟩ := hv2
    simp at c0 c1
    go_wp2
    refine bodyPost_ret (v := .agg #[.bool (decide (toZ q (b - a) < 0)), .slice A n c]) (by simp [results, Tryz.results112, go_sem, c0, c1]) rfl ⟨_, rfl, ⟨A, n, c, by rw [M.out], ?_⟩, (hb4.setCell (p := ⟨w.heap.size, 0, none⟩) (Nat.le_refl _) _).setCell (p := ⟨w.heap.size, 1, none⟩) (Nat.le_refl _) _⟩
    rw [M.out]
    exact hn.offbox hbx.out (noInt_zero _ _ _ _) (gb2 _ _ _ _ _ _)

set_option maxRecDepth 100000 in
set_option maxHeartbeats 2000000 in
theorem addSigned_more (p q : Bool) {v u : Value} {a b : Nat} {w : World} (h : Nm w v a) (k : Nm w u b) (hpq : p ≠ q) (hge : b ≤ a) (ha : (dig a).length ≤ 400000000) (_hb : (dig b).length ≤ 400000000) :
    Calls Tryz.prog 112 #[v, .bool p, u, .bool q] w fun e w' => ∃ v, e = .returned v ∧ Nz w' v (toZ p a + toZ q b) ∧ Below w.heap.size w w' := by
    have hb0 := fun o => (Below.refl w.heap.size w).alloc (Nat.le_refl _) o
    have M := hid ((addSigned_math p q a b).2.2 hpq hge)
    have hs0 : 0 ≤ sgn a b := by
      rcases Nat.lt_or_ge b a with h | h
      · rw [sgn_gt h]; decide
      · rw [show a = b by omega, sgn_eq]; decide
    obtain ⟨sg, hsg⟩ : ∃ sg, sgn a b = sg := ⟨_, rfl⟩
    rw [hsg] at hs0
    have Hs := hid hsg
    clear hsg
    have hbq : (p == q) = false := by rw [beq_eq_false_iff_ne]; exact hpq
    have h' := h.below (hb0 (.cells #[.bool false, .slice none 0 0] 24))
    have k' := k.below (hb0 (.cells #[.bool false, .slice none 0 0] 24))
    go_enter Tryz.func112, Tryz.ntmps112
    go_wp2_with fail
    refine (compareLimbs_nm h' k').mono ?_
    rintro e wq ⟨rfl, hqt⟩
    rw [Hs.out]
    go_wp2_with fail
    refine (subLimbs_nm (h'.qt hqt) (k'.qt hqt) (by omega) (by omega)).mono ?_
    rintro e w1 ⟨v1, rfl, hv1, hb1⟩
    have hb1' := bthen (hqt.below _) hb1 (Nat.le_refl _)
    go_wp2_with fail
    refine (integer_nm hv1).mono ?_
    rintro e w2 ⟨v2, rfl, hv2, hb2⟩
    have hb3 := bthen hb1' hb2 (Nat.le_refl _)
    have hb4 := bthen (hb0 _) hb3 (Nat.le_refl _)
    have c0 := box_cell hb3 0
    have c1 := box_cell hb3 1
    have f0 := box_frozen hb3 0
    have f1 := box_frozen hb3 1
    have hz := box_size hb3
    have hbx := hid (box_heap hb3)
    obtain ⟨A, n, c, rfl, hn⟩ := hv2
    simp at c0 c1
    go_wp2
    refine bodyPost_ret (v := .agg #[.bool (decide (toZ p (a - b) < 0)), .slice A n c]) (by simp [results, Tryz.results112, go_sem, c0, c1]) rfl ⟨_, rfl, ⟨A, n, c, by rw [M.out], ?_⟩, (hb4.setCell (p := ⟨w.heap.size, 0, none⟩) (Nat.le_refl _) _).setCell (p := ⟨w.heap.size, 1, none⟩) (Nat.le_refl _) _⟩
    rw [M.out]
    exact hn.offbox hbx.out (noInt_zero _ _ _ _) (gb2 _ _ _ _ _ _)

theorem addSigned_any (p q : Bool) {v u : Value} {a b : Nat} {w : World} (h : Nm w v a) (k : Nm w u b) (ha : (dig a).length ≤ 400000000) (hb : (dig b).length ≤ 400000000) :
    Calls Tryz.prog 112 #[v, .bool p, u, .bool q] w fun e w' => ∃ v, e = .returned v ∧ Nz w' v (toZ p a + toZ q b) ∧ Below w.heap.size w w' := by
  by_cases hpq : p = q
  · exact addSigned_same p q h k hpq ha hb
  · rcases Nat.lt_or_ge a b with hlt | hge
    · exact addSigned_less p q h k hpq hlt ha hb
    · exact addSigned_more p q h k hpq hge ha hb

end Go.Proofs.YtffipjofefemiaaGreatDoor

namespace Go.Proofs.YtffipjofefemiaaGreatDoor
open Go.RowKit Kb

/-- Three boxes: two integers and a result. -/
def Bx (W : World) (g : Nat) (T : TypeId) (p q : Bool) (A B : Option Addr) (n c m d : Nat) : Prop :=
  W.heap[g]? = some (.cells #[.bool p, .slice A n c] T (0, 0)) ∧ W.heap[g + 1]? = some (.cells #[.bool q, .slice B m d] T (0, 0)) ∧ W.heap[g + 1 + 1]? = some (.cells #[.bool false, .slice none 0 0] T (0, 0))
section
variable {W W' : World} {g n c m d N : Nat} {T : TypeId} {p q : Bool} {A B : Option Addr}
theorem Bx.below (h : Bx W g T p q A B n c m d) (hb : Below N W W') (hN : g + 3 ≤ N) : Bx W' g T p q A B n c m d :=
  ⟨(hb.block _ (by omega)).trans h.1, (hb.block _ (by omega)).trans h.2.1, (hb.block _ (by omega)).trans h.2.2⟩
theorem Bx.cells (h : Bx W g T p q A B n c m d) : W.cell? ⟨g, 0, none⟩ = some (.bool p) ∧ W.cell? ⟨g, 1, none⟩ = some (.slice A n c) ∧ W.cell? ⟨g + 1, 0, none⟩ = some (.bool q) ∧ W.cell? ⟨g + 1, 1, none⟩ = some (.slice B m d) ∧
    W.cell? ⟨g + 1 + 1, 0, none⟩ = some (.bool false) ∧ W.cell? ⟨g + 1 + 1, 1, none⟩ = some (.slice none 0 0) ∧ W.frozen? ⟨g + 1 + 1, 0, none⟩ = false ∧ W.frozen? ⟨g + 1 + 1, 1, none⟩ = false := by
  obtain ⟨h1, h2, h3⟩ := h
  refine ⟨?_, ?_, ?_, ?_, ?_, ?_, ?_, ?_⟩
  · rw [cell_of_row W _ _ _ T (0, 0) h1]; rfl
  · rw [cell_of_row W _ _ _ T (0, 0) h1]; rfl
  · rw [cell_of_row W _ _ _ T (0, 0) h2]; rfl
  · rw [cell_of_row W _ _ _ T (0, 0) h2]; rfl
  · rw [cell_of_row W _ _ _ T (0, 0) h3]; rfl
  · rw [cell_of_row W _ _ _ T (0, 0) h3]; rfl
  · simp [World.frozen?, h3]
  · simp [World.frozen?, h3]
theorem Bx.lt (h : Bx W g T p q A B n c m d) : g + 1 + 1 < W.heap.size := (Array.getElem?_eq_some_iff.1 h.2.2).1
theorem Bx.new (w : World) (T : TypeId) (p q : Bool) (A B : Option Addr) (n c m d : Nat) : Bx (((w.alloc (.cells #[.bool p, .slice A n c] T)).alloc (.cells #[.bool q, .slice B m d] T)).alloc (.cells #[.bool false, .slice none 0 0] T)) w.heap.size T p q A B n c m d := by
  refine ⟨?_, ?_, ?_⟩
  · rw [Below.heap_alloc _ _ _ (by simp; omega), Below.heap_alloc _ _ _ (by simp)]; exact heap_alloc_new w _
  · rw [Below.heap_alloc _ _ _ (by simp)]
    have := heap_alloc_new (w.alloc (.cells #[.bool p, .slice A n c] T)) (.cells #[.bool q, .slice B m d] T)
    simpa using this
  · have := heap_alloc_new ((w.alloc (.cells #[.bool p, .slice A n c] T)).alloc (.cells #[.bool q, .slice B m d] T)) (.cells #[.bool false, .slice none 0 0] T)
    simpa using this
end

theorem off_two {W : World} {g h i : Nat} {u0 u1 v : Value} (hne : h ≠ g) (hc : W.cell? ⟨g, i, none⟩ = some v) : ((W.setCell ⟨h, 0, none⟩ u0).setCell ⟨h, 1, none⟩ u1).cell? ⟨g, i, none⟩ = some v := by
  rw [World.cell?_setCell_other _ _ _ _ (fun e => by injection e with e1; omega), World.cell?_setCell_other _ _ _ _ (fun e => by injection e with e1; omega)]
  exact hc
/-- A contract whose result is an integer, its fields written out. -/
theorem nz_open {P : Program} {f : FuncId} {args : Array Value} {w : World} {z : Int} (h : Calls P f args w fun e w' => ∃ v, e = .returned v ∧ Nz w' v z ∧ Below w.heap.size w w') :
    Calls P f args w fun e w' => ∃ A n c, e = .returned (.agg #[.bool (decide (z < 0)), .slice A n c]) ∧ Nm w' (.slice A n c) z.natAbs ∧ Below w.heap.size w w' := by
  refine h.mono ?_
  rintro e w' ⟨v, rfl, ⟨A, n, c, rfl, hn⟩, hb⟩
  exact ⟨A, n, c, rfl, hn, hb⟩

set_option maxRecDepth 100000 in
set_option maxHeartbeats 4000000 in
theorem Add_any (p q : Bool) (A B : Option Addr) (n c m d a b : Nat) (w : World) (h : Raw w A n c a) (k : Raw w B m d b) (ha : (dig a).length ≤ 400000000) (hb : (dig b).length ≤ 400000000) :
    Calls Tryz.prog 68 #[.agg #[.bool p, .slice A n c], .agg #[.bool q, .slice B m d]] w fun e w' => ∃ v, e = .returned v ∧ Nz w' v (toZ p a + toZ q b) ∧ Below w.heap.size w w' := by
  have b0 := Bx.new w 24 p q A B n c m d
  have hB := (((Below.refl w.heap.size w).alloc (Nat.le_refl _) (.cells #[.bool p, .slice A n c] 24)).alloc (by simp) (.cells #[.bool q, .slice B m d] 24)).alloc (by simp; omega) (.cells #[.bool false, .slice none 0 0] 24)
  obtain ⟨g, hg⟩ : ∃ g, w.heap.size = g := ⟨_, rfl⟩
  go_enter Tryz.func68, Tryz.ntmps68
  go_wp2_with fail
  rw [hg] at b0
  generalize ((w.alloc (.cells #[.bool p, .slice A n c] 24)).alloc (.cells #[.bool q, .slice B m d] 24)).alloc (.cells #[.bool false, .slice none 0 0] 24) = W0 at *
  have h0 : Raw W0.drew A n c a := h.below hB.drew
  have k0 : Raw W0.drew B m d b := k.below hB.drew
  have hl0 := b0.lt
  have HB := hid hB
  have Hg := hid hg
  clear hB hg h k
  obtain ⟨x0, x1, x2, x3, x4, x5, x6, x7⟩ := b0.cells
  have hg3 : g + 3 ≤ W0.drew.heap.size := by show g + 3 ≤ W0.heap.size; omega
  have b0' : Bx W0.drew g 24 p q A B n c m d := b0
  go_region_held3 (fun w' => w'.cell? ⟨g, 0, none⟩ = some (.bool p) ∧ w'.cell? ⟨g, 1, none⟩ = some (.slice A n c) ∧ w'.cell? ⟨g + 1, 0, none⟩ = some (.bool q) ∧ w'.cell? ⟨g + 1, 1, none⟩ = some (.slice B m d)) (first | exact ⟨x0, x1, x2, x3⟩ | exact ⟨y0, y1, y2, y3⟩ | exact ⟨z0, z1, z2, z3⟩ | exact ⟨t0, t1, t2, t3⟩ | exact ⟨s0, s1, s2, s3⟩ | exact ⟨off_two (by omega) t0, off_two (by omega) t1, off_two (by omega) t2, off_two (by omega) t3⟩) (first
    | (go_at_call 76; with_reducible refine (size_any p A n c a W0.drew h0).mono ?_; rintro e w1 ⟨v1, rfl, hv1, hb1⟩; have b1 := b0'.below hb1 hg3; obtain ⟨y0, y1, y2, y3, y4, y5, y6, y7⟩ := b1.cells)
    | (go_at_call 76; with_reducible refine (size_any q B m d b _ (k0.below hb1)).mono ?_; rintro e w2 ⟨v2, rfl, hv2, hb2⟩; have b2 := b1.below hb2 (by have := b1.lt; omega); obtain ⟨z0, z1, z2, z3, z4, z5, z6, z7⟩ := b2.cells)
    | (go_at_call 112; with_reducible refine (nz_open (addSigned_any p q (hv1.below hb2) hv2 ha hb)).mono ?_; rintro e w3 ⟨A3, n3, c3, rfl, hn3, hb3⟩; have b3 := b2.below hb3 (by have := b2.lt; omega); have hl3 := b3.lt; obtain ⟨t0, t1, t2, t3, t4, t5, t6, t7⟩ := b3.cells))
  have h1 := bthen HB.out.drew hb1 (Nat.le_refl _)
  have h2 := bthen h1 hb2 (Nat.le_refl _)
  have h3 := bthen h2 hb3 (Nat.le_refl _)
  have hgl := Hg.out
  have h4 := (h3.setCell (p := ⟨g + 1 + 1, 0, none⟩) (by show w.heap.size ≤ g + 1 + 1; omega) (.bool (decide (toZ p a + toZ q b < 0)))).setCell (p := ⟨g + 1 + 1, 1, none⟩) (by show w.heap.size ≤ g + 1 + 1; omega) (.slice A3 n3 c3)
  clear hgl
  go_wp2
  exact bodyPost_ret (v := .agg #[.bool (decide (toZ p a + toZ q b < 0)), .slice A3 n3 c3]) (by simp [results, Tryz.results68, go_sem, t4, t5]) rfl ⟨_, rfl, ⟨A3, n3, c3, rfl, hn3.offbox b3.2.2 (noInt_zero _ _ _ _) (gb2 _ _ _ _ _ _)⟩, h4⟩

theorem toZ_not (q : Bool) (b : Nat) : toZ (!q) b = -toZ q b := by unfold toZ; cases q <;> simp
theorem addSigned_sub (p q : Bool) {v u : Value} {a b : Nat} {w : World} (h : Nm w v a) (k : Nm w u b) (ha : (dig a).length ≤ 400000000) (hb : (dig b).length ≤ 400000000) :
    Calls Tryz.prog 112 #[v, .bool p, u, .bool (!q)] w fun e w' => ∃ v, e = .returned v ∧ Nz w' v (toZ p a - toZ q b) ∧ Below w.heap.size w w' := by
  have := addSigned_any p (!q) h k ha hb
  rwa [toZ_not, ← Int.sub_eq_add_neg] at this

set_option maxRecDepth 100000 in
set_option maxHeartbeats 4000000 in
theorem Sub_any (p q : Bool) (A B : Option Addr) (n c m d a b : Nat) (w : World) (h : Raw w A n c a) (k : Raw w B m d b) (ha : (dig a).length ≤ 400000000) (hb : (dig b).length ≤ 400000000) :
    Calls Tryz.prog 70 #[.agg #[.bool p, .slice A n c], .agg #[.bool q, .slice B m d]] w fun e w' => ∃ v, e = .returned v ∧ Nz w' v (toZ p a - toZ q b) ∧ Below w.heap.size w w' := by
  have b0 := Bx.new w 24 p q A B n c m d
  have hB := (((Below.refl w.heap.size w).alloc (Nat.le_refl _) (.cells #[.bool p, .slice A n c] 24)).alloc (by simp) (.cells #[.bool q, .slice B m d] 24)).alloc (by simp; omega) (.cells #[.bool false, .slice none 0 0] 24)
  obtain ⟨g, hg⟩ : ∃ g, w.heap.size = g := ⟨_, rfl⟩
  go_enter Tryz.func70, Tryz.ntmps70
  go_wp2_with fail
  rw [hg] at b0
  generalize ((w.alloc (.cells #[.bool p, .slice A n c] 24)).alloc (.cells #[.bool q, .slice B m d] 24)).alloc (.cells #[.bool false, .slice none 0 0] 24) = W0 at *
  have h0 : Raw W0.drew A n c a := h.below hB.drew
  have k0 : Raw W0.drew B m d b := k.below hB.drew
  have hl0 := b0.lt
  have HB := hid hB
  have Hg := hid hg
  clear hB hg h k
  obtain ⟨x0, x1, x2, x3, x4, x5, x6, x7⟩ := b0.cells
  have hg3 : g + 3 ≤ W0.drew.heap.size := by show g + 3 ≤ W0.heap.size; omega
  have b0' : Bx W0.drew g 24 p q A B n c m d := b0
  go_region_held3 (fun w' => w'.cell? ⟨g, 0, none⟩ = some (.bool p) ∧ w'.cell? ⟨g, 1, none⟩ = some (.slice A n c) ∧ w'.cell? ⟨g + 1, 0, none⟩ = some (.bool q) ∧ w'.cell? ⟨g + 1, 1, none⟩ = some (.slice B m d)) (first | exact ⟨x0, x1, x2, x3⟩ | exact ⟨y0, y1, y2, y3⟩ | exact ⟨z0, z1, z2, z3⟩ | exact ⟨t0, t1, t2, t3⟩ | exact ⟨s0, s1, s2, s3⟩ | exact ⟨off_two (by omega) t0, off_two (by omega) t1, off_two (by omega) t2, off_two (by omega) t3⟩) (first
    | (go_at_call 76; with_reducible refine (size_any p A n c a W0.drew h0).mono ?_; rintro e w1 ⟨v1, rfl, hv1, hb1⟩; have b1 := b0'.below hb1 hg3; obtain ⟨y0, y1, y2, y3, y4, y5, y6, y7⟩ := b1.cells)
    | (go_at_call 76; with_reducible refine (size_any q B m d b _ (k0.below hb1)).mono ?_; rintro e w2 ⟨v2, rfl, hv2, hb2⟩; have b2 := b1.below hb2 (by have := b1.lt; omega); obtain ⟨z0, z1, z2, z3, z4, z5, z6, z7⟩ := b2.cells)
    | (go_at_call 112; with_reducible refine (nz_open (addSigned_sub p q (hv1.below hb2) hv2 ha hb)).mono ?_; rintro e w3 ⟨A3, n3, c3, rfl, hn3, hb3⟩; have b3 := b2.below hb3 (by have := b2.lt; omega); have hl3 := b3.lt; obtain ⟨t0, t1, t2, t3, t4, t5, t6, t7⟩ := b3.cells))
  have h1 := bthen HB.out.drew hb1 (Nat.le_refl _)
  have h2 := bthen h1 hb2 (Nat.le_refl _)
  have h3 := bthen h2 hb3 (Nat.le_refl _)
  have hgl := Hg.out
  have h4 := (h3.setCell (p := ⟨g + 1 + 1, 0, none⟩) (by show w.heap.size ≤ g + 1 + 1; omega) (.bool (decide (toZ p a - toZ q b < 0)))).setCell (p := ⟨g + 1 + 1, 1, none⟩) (by show w.heap.size ≤ g + 1 + 1; omega) (.slice A3 n3 c3)
  clear hgl
  go_wp2
  exact bodyPost_ret (v := .agg #[.bool (decide (toZ p a - toZ q b < 0)), .slice A3 n3 c3]) (by simp [results, Tryz.results70, go_sem, t4, t5]) rfl ⟨_, rfl, ⟨A3, n3, c3, rfl, hn3.offbox b3.2.2 (noInt_zero _ _ _ _) (gb2 _ _ _ _ _ _)⟩, h4⟩

theorem toZ_mul (p q : Bool) (a b : Nat) : toZ (p != q) (a * b) = toZ p a * toZ q b := by
  unfold toZ
  cases p <;> cases q <;> simp [Int.neg_mul, Int.mul_neg]
theorem integer_mul (p q : Bool) {v : Value} {a b : Nat} {w : World} (h : Nm w v (a * b)) :
    Calls Tryz.prog 101 #[.bool (!(p == q)), v] w fun e w' => ∃ v, e = .returned v ∧ Nz w' v (toZ p a * toZ q b) ∧ Below w.heap.size w w' := by
  have := integer_nm (neg := (!(p == q))) h
  rwa [show toZ (!(p == q)) (a * b) = toZ (p != q) (a * b) from rfl, toZ_mul] at this

set_option maxRecDepth 100000 in
set_option maxHeartbeats 4000000 in
theorem Mul_any (p q : Bool) (A B : Option Addr) (n c m d a b : Nat) (w : World) (h : Raw w A n c a) (k : Raw w B m d b) (ha : (dig a).length ≤ 400000000) (hb : (dig b).length ≤ 400000000) :
    Calls Tryz.prog 59 #[.agg #[.bool p, .slice A n c], .agg #[.bool q, .slice B m d]] w fun e w' => ∃ v, e = .returned v ∧ Nz w' v (toZ p a * toZ q b) ∧ Below w.heap.size w w' := by
  have b0 := Bx.new w 24 p q A B n c m d
  have hB := (((Below.refl w.heap.size w).alloc (Nat.le_refl _) (.cells #[.bool p, .slice A n c] 24)).alloc (by simp) (.cells #[.bool q, .slice B m d] 24)).alloc (by simp; omega) (.cells #[.bool false, .slice none 0 0] 24)
  obtain ⟨g, hg⟩ : ∃ g, w.heap.size = g := ⟨_, rfl⟩
  go_enter Tryz.func59, Tryz.ntmps59
  go_wp2_with fail
  rw [hg] at b0
  generalize ((w.alloc (.cells #[.bool p, .slice A n c] 24)).alloc (.cells #[.bool q, .slice B m d] 24)).alloc (.cells #[.bool false, .slice none 0 0] 24) = W0 at *
  have h0 : Raw W0.drew A n c a := h.below hB.drew
  have k0 : Raw W0.drew B m d b := k.below hB.drew
  have hl0 := b0.lt
  have HB := hid hB
  have Hg := hid hg
  clear hB hg h k
  obtain ⟨x0, x1, x2, x3, x4, x5, x6, x7⟩ := b0.cells
  have hg3 : g + 3 ≤ W0.drew.heap.size := by show g + 3 ≤ W0.heap.size; omega
  have b0' : Bx W0.drew g 24 p q A B n c m d := b0
  go_region_held3 (fun w' => w'.cell? ⟨g, 0, none⟩ = some (.bool p) ∧ w'.cell? ⟨g, 1, none⟩ = some (.slice A n c) ∧ w'.cell? ⟨g + 1, 0, none⟩ = some (.bool q) ∧ w'.cell? ⟨g + 1, 1, none⟩ = some (.slice B m d)) (first | exact ⟨x0, x1, x2, x3⟩ | exact ⟨y0, y1, y2, y3⟩ | exact ⟨z0, z1, z2, z3⟩ | exact ⟨t0, t1, t2, t3⟩ | exact ⟨s0, s1, s2, s3⟩ | exact ⟨off_two (by omega) s0, off_two (by omega) s1, off_two (by omega) s2, off_two (by omega) s3⟩) (first
    | (go_at_call 76; with_reducible refine (size_any p A n c a W0.drew h0).mono ?_; rintro e w1 ⟨v1, rfl, hv1, hb1⟩; have b1 := b0'.below hb1 hg3; obtain ⟨y0, y1, y2, y3, y4, y5, y6, y7⟩ := b1.cells)
    | (go_at_call 76; with_reducible refine (size_any q B m d b _ (k0.below hb1)).mono ?_; rintro e w2 ⟨v2, rfl, hv2, hb2⟩; have b2 := b1.below hb2 (by have := b1.lt; omega); obtain ⟨z0, z1, z2, z3, z4, z5, z6, z7⟩ := b2.cells)
    | (go_at_call 107; with_reducible refine (mulLimbs_nm (hv1.below hb2) hv2 (by omega) (by omega)).mono ?_; rintro e w3 ⟨v3, rfl, hv3, hb3⟩; have b3 := b2.below hb3 (by have := b2.lt; omega); obtain ⟨t0, t1, t2, t3, t4, t5, t6, t7⟩ := b3.cells)
    | (go_at_call 101; with_reducible refine (nz_open (integer_mul p q hv3)).mono ?_; rintro e w4 ⟨A3, n3, c3, rfl, hn3, hb4⟩; have b4 := b3.below hb4 (by have := b3.lt; omega); have hl3 := b4.lt; obtain ⟨s0, s1, s2, s3, s4, s5, s6, s7⟩ := b4.cells))
  have h1 := bthen HB.out.drew hb1 (Nat.le_refl _)
  have h2 := bthen h1 hb2 (Nat.le_refl _)
  have h3' := bthen h2 hb3 (Nat.le_refl _)
  have h3 := bthen h3' hb4 (Nat.le_refl _)
  have hgl := Hg.out
  have h4 := (h3.setCell (p := ⟨g + 1 + 1, 0, none⟩) (by show w.heap.size ≤ g + 1 + 1; omega) (.bool (decide (toZ p a * toZ q b < 0)))).setCell (p := ⟨g + 1 + 1, 1, none⟩) (by show w.heap.size ≤ g + 1 + 1; omega) (.slice A3 n3 c3)
  clear hgl
  go_wp2
  exact bodyPost_ret (v := .agg #[.bool (decide (toZ p a * toZ q b < 0)), .slice A3 n3 c3]) (by simp [results, Tryz.results59, go_sem, s4, s5]) rfl ⟨_, rfl, ⟨A3, n3, c3, rfl, hn3.offbox b4.2.2 (noInt_zero _ _ _ _) (gb2 _ _ _ _ _ _)⟩, h4⟩

set_option maxRecDepth 100000 in
set_option maxHeartbeats 1000000 in
theorem Of_any (z : Int) (w : World) (h1 : -9223372036854775808 ≤ z) (h2 : z ≤ 9223372036854775807) :
    Calls Tryz.prog 60 #[.int .i64 z] w fun e w' => ∃ v, e = .returned v ∧ Nz w' v z ∧ Below w.heap.size w w' := by
  have hb0 := fun o => (Below.refl w.heap.size w).alloc (Nat.le_refl _) o
  by_cases hz : z < 0
  · have hd : decide (z < 0) = true := by simp; omega
    have hw : IntKind.u64.wrap (wrap64 (-z)) = (z.natAbs : Int) := by
      unfold wrap64
      rw [IntKind.wrap_u64]
      omega
    have Hw := hid hw
    clear hw
    go_enter Tryz.func60, Tryz.ntmps60
    go_wp2_with fail
    rw [Hw.out]
    refine (limbsOf_any z.natAbs _ (by omega)).mono ?_
    rintro e w1 ⟨v1, rfl, hv1, hb1⟩
    go_wp2_with fail
    refine (nz_open (integer_nm hv1)).mono ?_
    rintro e w2 ⟨A, n', c, rfl, hn, hb2⟩
    have hb3 := bthen hb1 hb2 (Nat.le_refl _)
    have hb4 := bthen (hb0 _) hb3 (Nat.le_refl _)
    have c0 := box_cell hb3 0
    have c1 := box_cell hb3 1
    have f0 := box_frozen hb3 0
    have f1 := box_frozen hb3 1
    have hz' := box_size hb3
    have hbx := hid (box_heap hb3)
    simp at c0 c1
    go_wp2
    refine bodyPost_ret (v := .agg #[.bool (decide (toZ true z.natAbs < 0)), .slice A n' c]) (by simp [results, Tryz.results60, go_sem, c0, c1]) rfl ⟨_, rfl, ?_, (hb4.setCell (p := ⟨w.heap.size, 0, none⟩) (Nat.le_refl _) _).setCell (p := ⟨w.heap.size, 1, none⟩) (Nat.le_refl _) _⟩
    have hzz : toZ true z.natAbs = z := by unfold toZ; rw [if_pos rfl]; omega
    rw [hzz] at hn ⊢
    exact ⟨A, n', c, rfl, hn.offbox hbx.out (noInt_zero _ _ _ _) (gb2 _ _ _ _ _ _)⟩
  · obtain ⟨n, rfl⟩ : ∃ n : Nat, z = n := ⟨z.toNat, by omega⟩
    go_enter Tryz.func60, Tryz.ntmps60
    go_wp2_with fail
    refine (limbsOf_any n _ (by omega)).mono ?_
    rintro e w1 ⟨v1, rfl, hv1, hb1⟩
    go_wp2_with fail
    refine (nz_open (integer_nm hv1)).mono ?_
    rintro e w2 ⟨A, n', c, rfl, hn, hb2⟩
    have hb3 := bthen hb1 hb2 (Nat.le_refl _)
    have hb4 := bthen (hb0 _) hb3 (Nat.le_refl _)
    have c0 := box_cell hb3 0
    have c1 := box_cell hb3 1
    have f0 := box_frozen hb3 0
    have f1 := box_frozen hb3 1
    have hz' := box_size hb3
    have hbx := hid (box_heap hb3)
    simp at c0 c1
    go_wp2
    refine bodyPost_ret (v := .agg #[.bool (decide (toZ false n < 0)), .slice A n' c]) (by simp [results, Tryz.results60, go_sem, c0, c1]) rfl ⟨_, rfl, ?_, (hb4.setCell (p := ⟨w.heap.size, 0, none⟩) (Nat.le_refl _) _).setCell (p := ⟨w.heap.size, 1, none⟩) (Nat.le_refl _) _⟩
    have hzz : toZ false n = (n : Int) := rfl
    rw [hzz] at hn ⊢
    exact ⟨A, n', c, rfl, hn.offbox hbx.out (noInt_zero _ _ _ _) (gb2 _ _ _ _ _ _)⟩

theorem natAbs_sub (a : Nat) (z : Int) (h : z = (a : Int)) : z.natAbs = a := by omega

theorem div_math (p q : Bool) (a b : Nat) (hb : b ≠ 0) :
    (p = false → toZ (p != q) (a / b) = toZ p a / toZ q b ∧ toZ false (a % b) = toZ p a % toZ q b) ∧
    (p = true → a % b = 0 → toZ (p != q) (a / b) = toZ p a / toZ q b ∧ toZ false (a % b) = toZ p a % toZ q b) ∧
    (p = true → a % b ≠ 0 → toZ (p != q) (a / b + 1) = toZ p a / toZ q b ∧ toZ false (b - a % b) = toZ p a % toZ q b) := by
  have e1 := Nat.div_add_mod a b
  have e2 := Nat.mod_lt a (show 0 < b by omega)
  generalize hq : a / b = Q at *
  generalize hr : a % b = R at *
  have key : ∀ (x y z w : Int), y ≠ 0 → x = z * y + w → 0 ≤ w → w < y.natAbs → z = x / y ∧ w = x % y := by
    intro x y z w hy h1 h2 h3
    have h7 : w % y = w := by
      rcases Int.lt_or_gt_of_ne hy with h | h
      · rw [← Int.emod_neg, Int.emod_eq_of_lt h2 (by omega)]
      · rw [Int.emod_eq_of_lt h2 (by omega)]
    have h4 : w = x % y := by
      rw [h1, Int.add_comm, Int.add_mul_emod_self_right, h7]
    refine ⟨?_, h4⟩
    have h5 := Int.mul_ediv_add_emod x y
    rw [← h4] at h5
    have h6 : y * (x / y) = y * z := by rw [Int.mul_comm y z]; omega
    exact (Int.eq_of_mul_eq_mul_left hy h6).symm
  have e3 : (a : Int) = (b : Int) * (Q : Int) + (R : Int) := by rw [← e1]; push_cast; rfl
  have q1 : ((Q + 1 : Nat) : Int) = (Q : Int) + 1 := by omega
  refine ⟨fun hp => ?_, fun hp h0 => ?_, fun hp h0 => ?_⟩
  · subst hp
    cases q
    · exact key (a : Int) (b : Int) (Q : Int) (R : Int) (by omega) (by rw [Int.mul_comm]; exact e3) (by omega) (by omega)
    · exact key (a : Int) (-(b : Int)) (-(Q : Int)) (R : Int) (by omega) (by rw [Int.neg_mul_neg, Int.mul_comm]; exact e3) (by omega) (by omega)
  · subst hp
    cases q
    · exact key (-(a : Int)) (b : Int) (-(Q : Int)) (R : Int) (by omega) (by rw [Int.neg_mul, Int.mul_comm]; omega) (by omega) (by omega)
    · exact key (-(a : Int)) (-(b : Int)) (Q : Int) (R : Int) (by omega) (by rw [Int.mul_neg, Int.mul_comm]; omega) (by omega) (by omega)
  · subst hp
    cases q
    · exact key (-(a : Int)) (b : Int) (-((Q + 1 : Nat) : Int)) ((b - R : Nat) : Int) (by omega) (by rw [q1, Int.neg_mul, Int.add_mul, Int.one_mul, Int.mul_comm (Q : Int)]; omega) (by omega) (by omega)
    · exact key (-(a : Int)) (-(b : Int)) ((Q + 1 : Nat) : Int) ((b - R : Nat) : Int) (by omega) (by rw [q1, Int.mul_neg, Int.add_mul, Int.one_mul, Int.mul_comm (Q : Int)]; omega) (by omega) (by omega)

end Go.Proofs.YtffipjofefemiaaGreatDoor

namespace Go.Proofs.YtffipjofefemiaaGreatDoor
open Go.RowKit Kb

/-- Four boxes: two integers and two results. -/
def B4 (W : World) (g : Nat) (T : TypeId) (p q : Bool) (A B : Option Addr) (n c m d : Nat) : Prop :=
  Bx W g T p q A B n c m d ∧ W.heap[g + 1 + 1 + 1]? = some (.cells #[.bool false, .slice none 0 0] T (0, 0))
section
variable {W W' : World} {g n c m d N : Nat} {T : TypeId} {p q : Bool} {A B : Option Addr}
theorem B4.below (h : B4 W g T p q A B n c m d) (hb : Below N W W') (hN : g + 4 ≤ N) : B4 W' g T p q A B n c m d :=
  ⟨h.1.below hb (by omega), (hb.block _ (by omega)).trans h.2⟩
theorem B4.more (h : B4 W g T p q A B n c m d) : W.cell? ⟨g + 1 + 1 + 1, 0, none⟩ = some (.bool false) ∧ W.cell? ⟨g + 1 + 1 + 1, 1, none⟩ = some (.slice none 0 0) ∧ W.frozen? ⟨g + 1 + 1 + 1, 0, none⟩ = false ∧ W.frozen? ⟨g + 1 + 1 + 1, 1, none⟩ = false := by
  obtain ⟨h1, h2⟩ := h
  refine ⟨?_, ?_, ?_, ?_⟩
  · rw [cell_of_row W _ _ _ T (0, 0) h2]; rfl
  · rw [cell_of_row W _ _ _ T (0, 0) h2]; rfl
  · simp [World.frozen?, h2]
  · simp [World.frozen?, h2]
theorem B4.lt (h : B4 W g T p q A B n c m d) : g + 1 + 1 + 1 < W.heap.size := (Array.getElem?_eq_some_iff.1 h.2).1
theorem B4.new (w : World) (T : TypeId) (p q : Bool) (A B : Option Addr) (n c m d : Nat) : B4 ((((w.alloc (.cells #[.bool p, .slice A n c] T)).alloc (.cells #[.bool q, .slice B m d] T)).alloc (.cells #[.bool false, .slice none 0 0] T)).alloc (.cells #[.bool false, .slice none 0 0] T)) w.heap.size T p q A B n c m d := by
  refine ⟨(Bx.new w T p q A B n c m d).below (N := w.heap.size + 3) ((Below.refl _ _).alloc (by simp) _) (by omega), ?_⟩
  have := heap_alloc_new (((w.alloc (.cells #[.bool p, .slice A n c] T)).alloc (.cells #[.bool q, .slice B m d] T)).alloc (.cells #[.bool false, .slice none 0 0] T)) (.cells #[.bool false, .slice none 0 0] T)
  simpa using this
end

/-- A contract whose result is an integer, its fields written out, the sign under a name. -/
theorem nz_openb {P : Program} {f : FuncId} {args : Array Value} {w : World} {z : Int} (h : Calls P f args w fun e w' => ∃ v, e = .returned v ∧ Nz w' v z ∧ Below w.heap.size w w') :
    Calls P f args w fun e w' => ∃ s A n c, e = .returned (.agg #[.bool s, .slice A n c]) ∧ Hid (s = decide (z < 0)) ∧ Nm w' (.slice A n c) z.natAbs ∧ Below w.heap.size w w' := by
  refine h.mono ?_
  rintro e w' ⟨v, rfl, ⟨A, n, c, rfl, hn⟩, hb⟩
  exact ⟨_, A, n, c, rfl, rfl, hn, hb⟩
theorem integer_mulneg (p q : Bool) {v : Value} {a : Nat} {w : World} (h : Nm w v a) :
    Calls Tryz.prog 101 #[.bool (!(p == q)), v] w fun e w' => ∃ v, e = .returned v ∧ Nz w' v (toZ (p != q) a) ∧ Below w.heap.size w w' := integer_nm (neg := (!(p == q))) h

set_option maxRecDepth 100000 in
set_option maxHeartbeats 4000000 in
theorem DivMod_zero (p q : Bool) (A B : Option Addr) (n c m d : Nat) (w : World) (k : Raw w B m d 0) :
    Calls Tryz.prog 52 #[.agg #[.bool p, .slice A n c], .agg #[.bool q, .slice B m d]] w fun e w' => ∃ v u, e = .returned (.tuple #[v, u, .int .i64 9]) ∧ Nz w' v 0 ∧ Nz w' u 0 ∧ Below w.heap.size w w' := by
  have b0 := B4.new w 24 p q A B n c m d
  have hB := ((((Below.refl w.heap.size w).alloc (Nat.le_refl _) (.cells #[.bool p, .slice A n c] 24)).alloc (by simp) (.cells #[.bool q, .slice B m d] 24)).alloc (by simp; omega) (.cells #[.bool false, .slice none 0 0] 24)).alloc (by simp; omega) (.cells #[.bool false, .slice none 0 0] 24)
  obtain ⟨g, hg⟩ : ∃ g, w.heap.size = g := ⟨_, rfl⟩
  go_enter Tryz.func52, Tryz.ntmps52
  go_wp2_with fail
  rw [hg] at b0
  generalize (((w.alloc (.cells #[.bool p, .slice A n c] 24)).alloc (.cells #[.bool q, .slice B m d] 24)).alloc (.cells #[.bool false, .slice none 0 0] 24)).alloc (.cells #[.bool false, .slice none 0 0] 24) = W0 at *
  have k0 : Raw W0 B m d 0 := k.below hB
  have hl0 := b0.lt
  have HB := hid hB
  have Hg := hid hg
  clear hB hg k
  obtain ⟨x0, x1, x2, x3, x4, x5, x6, x7⟩ := b0.1.cells
  refine (size_any q B m d 0 _ k0).mono ?_
  rintro e w1 ⟨v, rfl, hv, hb⟩
  obtain ⟨A', c', rfl, _⟩ := hv
  rw [dig_zero, List.length_nil]
  have b1 := b0.below hb (by omega)
  obtain ⟨y0, y1, y2, y3, y4, y5, y6, y7⟩ := b1.1.cells
  obtain ⟨y8, y9, y10, y11⟩ := b1.more
  have hl1 := b1.lt
  have h5 := bthen HB.out hb (Nat.le_refl _)
  have hgl := Hg.out
  have h4 := (((h5.setCell (p := ⟨g + 1 + 1, 0, none⟩) (by show w.heap.size ≤ g + 1 + 1; omega) (.bool false)).setCell (p := ⟨g + 1 + 1, 1, none⟩) (by show w.heap.size ≤ g + 1 + 1; omega) (.slice none 0 0)).setCell (p := ⟨g + 1 + 1 + 1, 0, none⟩) (by show w.heap.size ≤ g + 1 + 1 + 1; omega) (.bool false)).setCell (p := ⟨g + 1 + 1 + 1, 1, none⟩) (by show w.heap.size ≤ g + 1 + 1 + 1; omega) (.slice none 0 0)
  clear hgl
  go_wp2
  exact bodyPost_ret (v := .tuple #[.agg #[.bool false, .slice none 0 0], .agg #[.bool false, .slice none 0 0], .int .i64 9]) (by simp [results, Tryz.results52, go_sem, y4, y5, y8, y9]) rfl ⟨_, _, rfl, ⟨none, 0, 0, rfl, nm_nil _⟩, ⟨none, 0, 0, rfl, nm_nil _⟩, h4⟩

set_option maxRecDepth 100000 in
set_option maxHeartbeats 2000000 in
theorem DivMod_pos (q : Bool) (A B : Option Addr) (n c m d a b : Nat) (w : World) (h : Raw w A n c a) (k : Raw w B m d b) (hb0 : b ≠ 0) (ha : (dig a).length ≤ 400000000) (_hb : (dig b).length ≤ 400000000) :
    Calls Tryz.prog 52 #[.agg #[.bool false, .slice A n c], .agg #[.bool q, .slice B m d]] w fun e w' => ∃ v u, e = .returned (.tuple #[v, u, .int .i64 0]) ∧ Nz w' v (toZ false a / toZ q b) ∧ Nz w' u (toZ false a % toZ q b) ∧ Below w.heap.size w w' := by
  have Hz := hid (show toZ q (a / b) = toZ false a / toZ q b ∧ toZ false (a % b) = toZ false a % toZ q b from by have := (div_math false q a b hb0).1 rfl; cases q <;> exact this)
  have b0 := B4.new w 24 false q A B n c m d
  have hB := ((((Below.refl w.heap.size w).alloc (Nat.le_refl _) (.cells #[.bool false, .slice A n c] 24)).alloc (by simp) (.cells #[.bool q, .slice B m d] 24)).alloc (by simp; omega) (.cells #[.bool false, .slice none 0 0] 24)).alloc (by simp; omega) (.cells #[.bool false, .slice none 0 0] 24)
  obtain ⟨g, hg⟩ : ∃ g, w.heap.size = g := ⟨_, rfl⟩
  go_enter Tryz.func52, Tryz.ntmps52
  go_wp2_with fail
  rw [hg] at b0
  generalize (((w.alloc (.cells #[.bool false, .slice A n c] 24)).alloc (.cells #[.bool q, .slice B m d] 24)).alloc (.cells #[.bool false, .slice none 0 0] 24)).alloc (.cells #[.bool false, .slice none 0 0] 24) = W0 at *
  have h0 : Raw W0 A n c a := h.below hB
  have k0 : Raw W0 B m d b := k.below hB
  have hl0 := b0.lt
  have HB := hid hB
  have Hg := hid hg
  have Hb0 := hid hb0
  have hbl : (((dig b).length : Int) == 0) = false := by
    rw [beq_eq_false_iff_ne]
    intro e
    exact hb0 (dig_nil_iff.1 (List.eq_nil_of_length_eq_zero (by omega)))
  clear hB hg h k hb0
  obtain ⟨x0, x1, x2, x3, x4, x5, x6, x7⟩ := b0.1.cells
  refine (size_any q B m d b _ k0).mono ?_
  rintro e w1 ⟨vb, rfl, hvb, hb1⟩
  have hvb' := hvb
  obtain ⟨B', d', rfl, _⟩ := hvb
  have b1 := b0.below hb1 (by omega)
  obtain ⟨y0, y1, y2, y3, y4, y5, y6, y7⟩ := b1.1.cells
  have hl1 := b1.lt
  clear x0 x1 x2 x3 x4 x5 x6 x7
  go_wp2_with fail
  refine (size_any false A n c a _ (h0.below hb1)).mono ?_
  rintro e w2 ⟨va, rfl, hva, hb2⟩
  have b2 := b1.below hb2 (by omega)
  have hl2 := b2.lt
  go_wp2_with fail
  refine (divLimbs_nm hva (hvb'.below hb2) Hb0.out ha).mono ?_
  rintro e w3 ⟨vq, vr, rfl, hvq, hvr, hb3⟩
  have hvr' := hvr
  obtain ⟨R', r', rfl, _⟩ := hvr
  have b3 := b2.below hb3 (by omega)
  obtain ⟨z0, z1, z2, z3, z4, z5, z6, z7⟩ := b3.1.cells
  have hl3 := b3.lt
  have h3 := bthen (bthen (bthen HB.out hb1 (Nat.le_refl _)) hb2 (Nat.le_refl _)) hb3 (Nat.le_refl _)
  clear y0 y1 y2 y3 y4 y5 y6 y7
  go_wp2_with fail
  refine (nz_openb (integer_nm (neg := q) (hvq))).mono ?_
  rintro e w6 ⟨s1, Q1, n1, c1, rfl, hs1, hn1, hb6⟩
  go_wp2_with fail
  refine (nz_openb (integer_nm (neg := false) ((hvr').below hb6))).mono ?_
  rintro e w7 ⟨s2, R1, m1, d1, rfl, hs2, hn2, hb7⟩
  have b7 := (b3.below hb6 (by omega)).below hb7 (by have := hb6.size; omega)
  obtain ⟨t0, t1, t2, t3, t4, t5, t6, t7⟩ := b7.1.cells
  obtain ⟨t8, t9, t10, t11⟩ := b7.more
  have hl7 := b7.lt
  have h7 := bthen (bthen h3 hb6 (Nat.le_refl _)) hb7 (Nat.le_refl _)
  have hgl := Hg.out
  have h4 := (((h7.setCell (p := ⟨g + 1 + 1, 0, none⟩) (by show w.heap.size ≤ g + 1 + 1; omega) (.bool s1)).setCell (p := ⟨g + 1 + 1, 1, none⟩) (by show w.heap.size ≤ g + 1 + 1; omega) (.slice Q1 n1 c1)).setCell (p := ⟨g + 1 + 1 + 1, 0, none⟩) (by show w.heap.size ≤ g + 1 + 1 + 1; omega) (.bool s2)).setCell (p := ⟨g + 1 + 1 + 1, 1, none⟩) (by show w.heap.size ≤ g + 1 + 1 + 1; omega) (.slice R1 m1 d1)
  clear hgl
  have hn1' := hid hn1
  have hn2' := hid hn2
  clear hn1 hn2
  go_wp2
  have hN1 := (hn1'.out.below hb7).offbox b7.1.2.2 (noInt_zero _ _ _ _) (gb2 _ (g + 1 + 1) 0 1 (.bool s1) (.slice Q1 n1 c1))
  have hN2 := hn2'.out.offbox b7.1.2.2 (noInt_zero _ _ _ _) (gb2 _ (g + 1 + 1) 0 1 (.bool s1) (.slice Q1 n1 c1))
  have hbx : ((w7.setCell ⟨g + 1 + 1, 0, none⟩ (.bool s1)).setCell ⟨g + 1 + 1, 1, none⟩ (.slice Q1 n1 c1)).heap[g + 1 + 1 + 1]? = some (.cells #[.bool false, .slice none 0 0] 24 (0, 0)) := by
    rw [Below.heap_setCell _ _ _ _ (by show g + 1 + 1 + 1 ≠ g + 1 + 1; omega), Below.heap_setCell _ _ _ _ (by show g + 1 + 1 + 1 ≠ g + 1 + 1; omega)]
    exact b7.2
  have hM1 := hN1.offbox hbx (noInt_zero _ _ _ _) (gb2 _ (g + 1 + 1 + 1) 0 1 (.bool s2) (.slice R1 m1 d1))
  have hM2 := hN2.offbox hbx (noInt_zero _ _ _ _) (gb2 _ (g + 1 + 1 + 1) 0 1 (.bool s2) (.slice R1 m1 d1))
  refine bodyPost_ret (v := .tuple #[.agg #[.bool s1, .slice Q1 n1 c1], .agg #[.bool s2, .slice R1 m1 d1], .int .i64 0]) (by simp [results, Tryz.results52, go_sem, t4, t5, t8, t9]) rfl ⟨_, _, rfl, ?_, ?_, h4⟩
  · rw [← Hz.out.1]; exact ⟨Q1, n1, c1, by rw [hs1.out], hM1⟩
  · rw [← Hz.out.2]; exact ⟨R1, m1, d1, by rw [hs2.out], hM2⟩

set_option maxRecDepth 100000 in
set_option maxHeartbeats 2000000 in
theorem DivMod_even (q : Bool) (A B : Option Addr) (n c m d a b : Nat) (w : World) (h : Raw w A n c a) (k : Raw w B m d b) (hb0 : b ≠ 0) (hr0 : a % b = 0) (ha : (dig a).length ≤ 400000000) (_hb : (dig b).length ≤ 400000000) :
    Calls Tryz.prog 52 #[.agg #[.bool true, .slice A n c], .agg #[.bool q, .slice B m d]] w fun e w' => ∃ v u, e = .returned (.tuple #[v, u, .int .i64 0]) ∧ Nz w' v (toZ true a / toZ q b) ∧ Nz w' u (toZ true a % toZ q b) ∧ Below w.heap.size w w' := by
  have Hz := hid (show toZ (!q) (a / b) = toZ true a / toZ q b ∧ toZ false (a % b) = toZ true a % toZ q b from by have := (div_math true q a b hb0).2.1 rfl hr0; cases q <;> exact this)
  have hl0' : (dig (a % b)).length = 0 := by rw [hr0, dig_zero]; rfl
  have Hl0 := hid hl0'
  clear hr0 hl0'
  have b0 := B4.new w 24 true q A B n c m d
  have hB := ((((Below.refl w.heap.size w).alloc (Nat.le_refl _) (.cells #[.bool true, .slice A n c] 24)).alloc (by simp) (.cells #[.bool q, .slice B m d] 24)).alloc (by simp; omega) (.cells #[.bool false, .slice none 0 0] 24)).alloc (by simp; omega) (.cells #[.bool false, .slice none 0 0] 24)
  obtain ⟨g, hg⟩ : ∃ g, w.heap.size = g := ⟨_, rfl⟩
  go_enter Tryz.func52, Tryz.ntmps52
  go_wp2_with fail
  rw [hg] at b0
  generalize (((w.alloc (.cells #[.bool true, .slice A n c] 24)).alloc (.cells #[.bool q, .slice B m d] 24)).alloc (.cells #[.bool false, .slice none 0 0] 24)).alloc (.cells #[.bool false, .slice none 0 0] 24) = W0 at *
  have h0 : Raw W0 A n c a := h.below hB
  have k0 : Raw W0 B m d b := k.below hB
  have hl0 := b0.lt
  have HB := hid hB
  have Hg := hid hg
  have Hb0 := hid hb0
  have hbl : (((dig b).length : Int) == 0) = false := by
    rw [beq_eq_false_iff_ne]
    intro e
    exact hb0 (dig_nil_iff.1 (List.eq_nil_of_length_eq_zero (by omega)))
  clear hB hg h k hb0
  obtain ⟨x0, x1, x2, x3, x4, x5, x6, x7⟩ := b0.1.cells
  refine (size_any q B m d b _ k0).mono ?_
  rintro e w1 ⟨vb, rfl, hvb, hb1⟩
  have hvb' := hvb
  obtain ⟨B', d', rfl, _⟩ := hvb
  have b1 := b0.below hb1 (by omega)
  obtain ⟨y0, y1, y2, y3, y4, y5, y6, y7⟩ := b1.1.cells
  have hl1 := b1.lt
  clear x0 x1 x2 x3 x4 x5 x6 x7
  go_wp2_with fail
  refine (size_any true A n c a _ (h0.below hb1)).mono ?_
  rintro e w2 ⟨va, rfl, hva, hb2⟩
  have b2 := b1.below hb2 (by omega)
  have hl2 := b2.lt
  go_wp2_with fail
  refine (divLimbs_nm hva (hvb'.below hb2) Hb0.out ha).mono ?_
  rintro e w3 ⟨vq, vr, rfl, hvq, hvr, hb3⟩
  have hvr' := hvr
  obtain ⟨R', r', rfl, _⟩ := hvr
  have b3 := b2.below hb3 (by omega)
  obtain ⟨z0, z1, z2, z3, z4, z5, z6, z7⟩ := b3.1.cells
  have hl3 := b3.lt
  have h3 := bthen (bthen (bthen HB.out hb1 (Nat.le_refl _)) hb2 (Nat.le_refl _)) hb3 (Nat.le_refl _)
  clear y0 y1 y2 y3 y4 y5 y6 y7
  rw [Hl0.out] at hvr' ⊢
  go_wp2_with fail
  refine (nz_openb (integer_nm (neg := !q) (hvq))).mono ?_
  rintro e w6 ⟨s1, Q1, n1, c1, rfl, hs1, hn1, hb6⟩
  go_wp2_with fail
  refine (nz_openb (integer_nm (neg := false) ((hvr').below hb6))).mono ?_
  rintro e w7 ⟨s2, R1, m1, d1, rfl, hs2, hn2, hb7⟩
  have b7 := (b3.below hb6 (by omega)).below hb7 (by have := hb6.size; omega)
  obtain ⟨t0, t1, t2, t3, t4, t5, t6, t7⟩ := b7.1.cells
  obtain ⟨t8, t9, t10, t11⟩ := b7.more
  have hl7 := b7.lt
  have h7 := bthen (bthen h3 hb6 (Nat.le_refl _)) hb7 (Nat.le_refl _)
  have hgl := Hg.out
  have h4 := (((h7.setCell (p := ⟨g + 1 + 1, 0, none⟩) (by show w.heap.size ≤ g + 1 + 1; omega) (.bool s1)).setCell (p := ⟨g + 1 + 1, 1, none⟩) (by show w.heap.size ≤ g + 1 + 1; omega) (.slice Q1 n1 c1)).setCell (p := ⟨g + 1 + 1 + 1, 0, none⟩) (by show w.heap.size ≤ g + 1 + 1 + 1; omega) (.bool s2)).setCell (p := ⟨g + 1 + 1 + 1, 1, none⟩) (by show w.heap.size ≤ g + 1 + 1 + 1; omega) (.slice R1 m1 d1)
  clear hgl
  have hn1' := hid hn1
  have hn2' := hid hn2
  clear hn1 hn2
  go_wp2
  have hN1 := (hn1'.out.below hb7).offbox b7.1.2.2 (noInt_zero _ _ _ _) (gb2 _ (g + 1 + 1) 0 1 (.bool s1) (.slice Q1 n1 c1))
  have hN2 := hn2'.out.offbox b7.1.2.2 (noInt_zero _ _ _ _) (gb2 _ (g + 1 + 1) 0 1 (.bool s1) (.slice Q1 n1 c1))
  have hbx : ((w7.setCell ⟨g + 1 + 1, 0, none⟩ (.bool s1)).setCell ⟨g + 1 + 1, 1, none⟩ (.slice Q1 n1 c1)).heap[g + 1 + 1 + 1]? = some (.cells #[.bool false, .slice none 0 0] 24 (0, 0)) := by
    rw [Below.heap_setCell _ _ _ _ (by show g + 1 + 1 + 1 ≠ g + 1 + 1; omega), Below.heap_setCell _ _ _ _ (by show g + 1 + 1 + 1 ≠ g + 1 + 1; omega)]
    exact b7.2
  have hM1 := hN1.offbox hbx (noInt_zero _ _ _ _) (gb2 _ (g + 1 + 1 + 1) 0 1 (.bool s2) (.slice R1 m1 d1))
  have hM2 := hN2.offbox hbx (noInt_zero _ _ _ _) (gb2 _ (g + 1 + 1 + 1) 0 1 (.bool s2) (.slice R1 m1 d1))
  refine bodyPost_ret (v := .tuple #[.agg #[.bool s1, .slice Q1 n1 c1], .agg #[.bool s2, .slice R1 m1 d1], .int .i64 0]) (by simp [results, Tryz.results52, go_sem, t4, t5, t8, t9]) rfl ⟨_, _, rfl, ?_, ?_, h4⟩
  · rw [← Hz.out.1]; exact ⟨Q1, n1, c1, by rw [hs1.out], hM1⟩
  · rw [← Hz.out.2]; exact ⟨R1, m1, d1, by rw [hs2.out], hM2⟩

set_option maxRecDepth 100000 in
set_option maxHeartbeats 2000000 in
theorem DivMod_fix (q : Bool) (A B : Option Addr) (n c m d a b : Nat) (w : World) (h : Raw w A n c a) (k : Raw w B m d b) (hb0 : b ≠ 0) (hr0 : a % b ≠ 0) (ha : (dig a).length ≤ 400000000) (hb : (dig b).length ≤ 400000000) :
    Calls Tryz.prog 52 #[.agg #[.bool true, .slice A n c], .agg #[.bool q, .slice B m d]] w fun e w' => ∃ v u, e = .returned (.tuple #[v, u, .int .i64 0]) ∧ Nz w' v (toZ true a / toZ q b) ∧ Nz w' u (toZ true a % toZ q b) ∧ Below w.heap.size w w' := by
  have Hz := hid (show toZ (!q) (a / b + 1) = toZ true a / toZ q b ∧ toZ false (b - a % b) = toZ true a % toZ q b from by have := (div_math true q a b hb0).2.2 rfl hr0; cases q <;> exact this)
  have hrp : 0 < (dig (a % b)).length := List.length_pos_iff.2 (fun e => hr0 (dig_nil_iff.1 e))
  have hqs : (dig (a / b)).length ≤ (dig a).length := dig_length_mono (Nat.div_le_self _ _)
  have h1l : (dig 1).length ≤ 1 := dig_length_le (by decide)
  have Hls := hid (And.intro hqs h1l)
  clear hr0 hqs h1l
  have b0 := B4.new w 24 true q A B n c m d
  have hB := ((((Below.refl w.heap.size w).alloc (Nat.le_refl _) (.cells #[.bool true, .slice A n c] 24)).alloc (by simp) (.cells #[.bool q, .slice B m d] 24)).alloc (by simp; omega) (.cells #[.bool false, .slice none 0 0] 24)).alloc (by simp; omega) (.cells #[.bool false, .slice none 0 0] 24)
  obtain ⟨g, hg⟩ : ∃ g, w.heap.size = g := ⟨_, rfl⟩
  go_enter Tryz.func52, Tryz.ntmps52
  go_wp2_with fail
  rw [hg] at b0
  generalize (((w.alloc (.cells #[.bool true, .slice A n c] 24)).alloc (.cells #[.bool q, .slice B m d] 24)).alloc (.cells #[.bool false, .slice none 0 0] 24)).alloc (.cells #[.bool false, .slice none 0 0] 24) = W0 at *
  have h0 : Raw W0 A n c a := h.below hB
  have k0 : Raw W0 B m d b := k.below hB
  have hl0 := b0.lt
  have HB := hid hB
  have Hg := hid hg
  have Hb0 := hid hb0
  have hbl : (((dig b).length : Int) == 0) = false := by
    rw [beq_eq_false_iff_ne]
    intro e
    exact hb0 (dig_nil_iff.1 (List.eq_nil_of_length_eq_zero (by omega)))
  clear hB hg h k hb0
  obtain ⟨x0, x1, x2, x3, x4, x5, x6, x7⟩ := b0.1.cells
  refine (size_any q B m d b _ k0).mono ?_
  rintro e w1 ⟨vb, rfl, hvb, hb1⟩
  have hvb' := hvb
  obtain ⟨B', d', rfl, _⟩ := hvb
  have b1 := b0.below hb1 (by omega)
  obtain ⟨y0, y1, y2, y3, y4, y5, y6, y7⟩ := b1.1.cells
  have hl1 := b1.lt
  clear x0 x1 x2 x3 x4 x5 x6 x7
  go_wp2_with fail
  refine (size_any true A n c a _ (h0.below hb1)).mono ?_
  rintro e w2 ⟨va, rfl, hva, hb2⟩
  have b2 := b1.below hb2 (by omega)
  have hl2 := b2.lt
  go_wp2_with fail
  refine (divLimbs_nm hva (hvb'.below hb2) Hb0.out ha).mono ?_
  rintro e w3 ⟨vq, vr, rfl, hvq, hvr, hb3⟩
  have hvr' := hvr
  obtain ⟨R', r', rfl, _⟩ := hvr
  have b3 := b2.below hb3 (by omega)
  obtain ⟨z0, z1, z2, z3, z4, z5, z6, z7⟩ := b3.1.cells
  have hl3 := b3.lt
  have h3 := bthen (bthen (bthen HB.out hb1 (Nat.le_refl _)) hb2 (Nat.le_refl _)) hb3 (Nat.le_refl _)
  clear y0 y1 y2 y3 y4 y5 y6 y7
  go_wp2_with fail
  refine (limbsOf_any 1 _ (by decide)).mono ?_
  rintro e w4 ⟨v1, rfl, hv1, hb4⟩
  have b4 := b3.below hb4 (by omega)
  have hl4 := b4.lt
  go_wp2_with fail
  refine (addLimbs_nm (hvq.below hb4) hv1 (by have := Hls.out; omega) (by have := Hls.out; omega)).mono ?_
  rintro e w5 ⟨vs, rfl, hvs, hb5⟩
  have b5 := b4.below hb5 (by omega)
  have hl5 := b5.lt
  go_wp2_with fail
  refine (subLimbs_nm ((((hvb'.below hb2).below hb3).below hb4).below hb5) ((hvr'.below hb4).below hb5) (by have := Nat.mod_lt a (show 0 < b by have := Hb0.out; omega); omega) (by omega)).mono ?_
  rintro e w8 ⟨vt, rfl, hvt, hb8⟩
  have b8 := b5.below hb8 (by omega)
  have hl8 := b8.lt
  obtain ⟨s0, s1, s2, s3, s4, s5, s6, s7⟩ := b8.1.cells
  have h8 := bthen (bthen (bthen h3 hb4 (Nat.le_refl _)) hb5 (Nat.le_refl _)) hb8 (Nat.le_refl _)
  clear z0 z1 z2 z3 z4 z5 z6 z7
  go_wp2_with fail
  refine (nz_openb (integer_nm (neg := !q) (hvs.below hb8))).mono ?_
  rintro e w6 ⟨s1, Q1, n1, c1, rfl, hs1, hn1, hb6⟩
  go_wp2_with fail
  refine (nz_openb (integer_nm (neg := false) ((hvt).below hb6))).mono ?_
  rintro e w7 ⟨s2, R1, m1, d1, rfl, hs2, hn2, hb7⟩
  have b7 := (b8.below hb6 (by omega)).below hb7 (by have := hb6.size; omega)
  obtain ⟨t0, t1, t2, t3, t4, t5, t6, t7⟩ := b7.1.cells
  obtain ⟨t8, t9, t10, t11⟩ := b7.more
  have hl7 := b7.lt
  have h7 := bthen (bthen h8 hb6 (Nat.le_refl _)) hb7 (Nat.le_refl _)
  have hgl := Hg.out
  have h4 := (((h7.setCell (p := ⟨g + 1 + 1, 0, none⟩) (by show w.heap.size ≤ g + 1 + 1; omega) (.bool s1)).setCell (p := ⟨g + 1 + 1, 1, none⟩) (by show w.heap.size ≤ g + 1 + 1; omega) (.slice Q1 n1 c1)).setCell (p := ⟨g + 1 + 1 + 1, 0, none⟩) (by show w.heap.size ≤ g + 1 + 1 + 1; omega) (.bool s2)).setCell (p := ⟨g + 1 + 1 + 1, 1, none⟩) (by show w.heap.size ≤ g + 1 + 1 + 1; omega) (.slice R1 m1 d1)
  clear hgl
  have hn1' := hid hn1
  have hn2' := hid hn2
  clear hn1 hn2
  go_wp2
  have hN1 := (hn1'.out.below hb7).offbox b7.1.2.2 (noInt_zero _ _ _ _) (gb2 _ (g + 1 + 1) 0 1 (.bool s1) (.slice Q1 n1 c1))
  have hN2 := hn2'.out.offbox b7.1.2.2 (noInt_zero _ _ _ _) (gb2 _ (g + 1 + 1) 0 1 (.bool s1) (.slice Q1 n1 c1))
  have hbx : ((w7.setCell ⟨g + 1 + 1, 0, none⟩ (.bool s1)).setCell ⟨g + 1 + 1, 1, none⟩ (.slice Q1 n1 c1)).heap[g + 1 + 1 + 1]? = some (.cells #[.bool false, .slice none 0 0] 24 (0, 0)) := by
    rw [Below.heap_setCell _ _ _ _ (by show g + 1 + 1 + 1 ≠ g + 1 + 1; omega), Below.heap_setCell _ _ _ _ (by show g + 1 + 1 + 1 ≠ g + 1 + 1; omega)]
    exact b7.2
  have hM1 := hN1.offbox hbx (noInt_zero _ _ _ _) (gb2 _ (g + 1 + 1 + 1) 0 1 (.bool s2) (.slice R1 m1 d1))
  have hM2 := hN2.offbox hbx (noInt_zero _ _ _ _) (gb2 _ (g + 1 + 1 + 1) 0 1 (.bool s2) (.slice R1 m1 d1))
  refine bodyPost_ret (v := .tuple #[.agg #[.bool s1, .slice Q1 n1 c1], .agg #[.bool s2, .slice R1 m1 d1], .int .i64 0]) (by simp [results, Tryz.results52, go_sem, t4, t5, t8, t9]) rfl ⟨_, _, rfl, ?_, ?_, h4⟩
  · rw [← Hz.out.1]; exact ⟨Q1, n1, c1, by rw [hs1.out], hM1⟩
  · rw [← Hz.out.2]; exact ⟨R1, m1, d1, by rw [hs2.out], hM2⟩

theorem DivMod_any (p q : Bool) (A B : Option Addr) (n c m d a b : Nat) (w : World) (h : Raw w A n c a) (k : Raw w B m d b) (hb0 : b ≠ 0) (ha : (dig a).length ≤ 400000000) (hb : (dig b).length ≤ 400000000) :
    Calls Tryz.prog 52 #[.agg #[.bool p, .slice A n c], .agg #[.bool q, .slice B m d]] w fun e w' => ∃ v u, e = .returned (.tuple #[v, u, .int .i64 0]) ∧ Nz w' v (toZ p a / toZ q b) ∧ Nz w' u (toZ p a % toZ q b) ∧ Below w.heap.size w w' := by
  cases p
  · exact DivMod_pos q A B n c m d a b w h k hb0 ha hb
  · by_cases hr0 : a % b = 0
    · exact DivMod_even q A B n c m d a b w h k hb0 hr0 ha hb
    · exact DivMod_fix q A B n c m d a b w h k hb0 hr0 ha hb

end Go.Proofs.YtffipjofefemiaaGreatDoor

namespace Go.Proofs.YtffipjofefemiaaGreatDoor
open Go.RowKit Kb

/-- Two boxes of integers. -/
def B2 (W : World) (g : Nat) (T : TypeId) (p q : Bool) (A B : Option Addr) (n c m d : Nat) : Prop :=
  W.heap[g]? = some (.cells #[.bool p, .slice A n c] T (0, 0)) ∧ W.heap[g + 1]? = some (.cells #[.bool q, .slice B m d] T (0, 0))
section
variable {W W' : World} {g n c m d N : Nat} {T : TypeId} {p q : Bool} {A B : Option Addr}
theorem B2.below (h : B2 W g T p q A B n c m d) (hb : Below N W W') (hN : g + 2 ≤ N) : B2 W' g T p q A B n c m d :=
  ⟨(hb.block _ (by omega)).trans h.1, (hb.block _ (by omega)).trans h.2⟩
theorem B2.cells (h : B2 W g T p q A B n c m d) : W.cell? ⟨g, 0, none⟩ = some (.bool p) ∧ W.cell? ⟨g, 1, none⟩ = some (.slice A n c) ∧ W.cell? ⟨g + 1, 0, none⟩ = some (.bool q) ∧ W.cell? ⟨g + 1, 1, none⟩ = some (.slice B m d) := by
  obtain ⟨h1, h2⟩ := h
  refine ⟨?_, ?_, ?_, ?_⟩
  · rw [cell_of_row W _ _ _ T (0, 0) h1]; rfl
  · rw [cell_of_row W _ _ _ T (0, 0) h1]; rfl
  · rw [cell_of_row W _ _ _ T (0, 0) h2]; rfl
  · rw [cell_of_row W _ _ _ T (0, 0) h2]; rfl
theorem B2.lt (h : B2 W g T p q A B n c m d) : g + 1 < W.heap.size := (Array.getElem?_eq_some_iff.1 h.2).1
theorem B2.new (w : World) (T : TypeId) (p q : Bool) (A B : Option Addr) (n c m d : Nat) : B2 ((w.alloc (.cells #[.bool p, .slice A n c] T)).alloc (.cells #[.bool q, .slice B m d] T)) w.heap.size T p q A B n c m d := by
  refine ⟨?_, ?_⟩
  · rw [Below.heap_alloc _ _ _ (by simp)]; exact heap_alloc_new w _
  · have := heap_alloc_new (w.alloc (.cells #[.bool p, .slice A n c] T)) (.cells #[.bool q, .slice B m d] T)
    simpa using this
end

set_option maxRecDepth 100000 in
set_option maxHeartbeats 1000000 in
theorem compare_any (x y : Int) (w : World) :
    Calls Tryz.prog 117 #[.int .i64 x, .int .i64 y] w fun e w' => e = .returned (.int .i64 (if x < y then -1 else if y < x then 1 else 0)) ∧ w = w' := by
  rcases Int.lt_trichotomy x y with h | h | h
  · rw [if_pos h]
    go_enter Tryz.func117, Tryz.ntmps117
    go_wp2
    all_goals go_ret
    all_goals first | exact ⟨rfl, rfl⟩ | (exfalso; omega)
  · subst h
    rw [if_neg (by omega), if_neg (by omega)]
    go_enter Tryz.func117, Tryz.ntmps117
    go_wp2
    all_goals go_ret
    all_goals first | exact ⟨rfl, rfl⟩ | (exfalso; omega)
  · rw [if_neg (by omega), if_pos h]
    go_enter Tryz.func117, Tryz.ntmps117
    go_wp2
    all_goals go_ret
    all_goals first | exact ⟨rfl, rfl⟩ | (exfalso; omega)

/-- The sign of a difference of integers. -/
def cmpZ (x y : Int) : Int := (x - y).sign

set_option maxRecDepth 100000 in
set_option maxHeartbeats 4000000 in
theorem Cmp_signs (p q : Bool) (A B : Option Addr) (n c m d a b : Nat) (w : World) (h : Raw w A n c a) (k : Raw w B m d b) (hne : (toZ p a).sign ≠ (toZ q b).sign) :
    Calls Tryz.prog 77 #[.agg #[.bool p, .slice A n c], .agg #[.bool q, .slice B m d]] w fun e w' => e = .returned (.int .i64 (cmpZ (toZ p a) (toZ q b))) ∧ Below w.heap.size w w' := by
  have Hres := hid (show (if (toZ p a).sign < (toZ q b).sign then (-1 : Int) else if (toZ q b).sign < (toZ p a).sign then 1 else 0) = cmpZ (toZ p a) (toZ q b) from by
    unfold cmpZ
    generalize toZ p a = x at *
    generalize toZ q b = y at *
    rcases Int.lt_trichotomy x 0 with hx | hx | hx <;> rcases Int.lt_trichotomy y 0 with hy | hy | hy
    · rw [Int.sign_eq_neg_one_of_neg hx, Int.sign_eq_neg_one_of_neg hy] at hne; exact absurd rfl hne
    · subst hy; rw [Int.sign_eq_neg_one_of_neg hx, Int.sign_zero, Int.sign_eq_neg_one_of_neg (by omega)]; rfl
    · rw [Int.sign_eq_neg_one_of_neg hx, Int.sign_eq_one_of_pos hy, Int.sign_eq_neg_one_of_neg (by omega)]; rfl
    · subst hx; rw [Int.sign_eq_neg_one_of_neg hy, Int.sign_zero, Int.sign_eq_one_of_pos (by omega)]; rfl
    · subst hx; subst hy; exact absurd rfl hne
    · subst hx; rw [Int.sign_eq_one_of_pos hy, Int.sign_zero, Int.sign_eq_neg_one_of_neg (by omega)]; rfl
    · rw [Int.sign_eq_one_of_pos hx, Int.sign_eq_neg_one_of_neg hy, Int.sign_eq_one_of_pos (by omega)]; rfl
    · subst hy; rw [Int.sign_eq_one_of_pos hx, Int.sign_zero, Int.sign_eq_one_of_pos (by omega)]; rfl
    · rw [Int.sign_eq_one_of_pos hx, Int.sign_eq_one_of_pos hy] at hne; exact absurd rfl hne)
  have hss : ((toZ p a).sign != (toZ q b).sign) = true := by rw [bne_iff_ne]; exact hne
  have b0 := B2.new w 24 p q A B n c m d
  have hB := ((Below.refl w.heap.size w).alloc (Nat.le_refl _) (.cells #[.bool p, .slice A n c] 24)).alloc (by simp) (.cells #[.bool q, .slice B m d] 24)
  generalize hs1 : (toZ p a).sign = s1 at *
  generalize hs2 : (toZ q b).sign = s2 at *
  have Hs := hid (And.intro hs1 hs2)
  clear hs1 hs2 hne
  obtain ⟨g, hg⟩ : ∃ g, w.heap.size = g := ⟨_, rfl⟩
  go_enter Tryz.func77, Tryz.ntmps77
  go_wp2_with fail
  rw [hg] at b0
  generalize (w.alloc (.cells #[.bool p, .slice A n c] 24)).alloc (.cells #[.bool q, .slice B m d] 24) = W0 at *
  have h0 : Raw W0.drew A n c a := h.below hB.drew
  have k0 : Raw W0.drew B m d b := k.below hB.drew
  have hl0 := b0.lt
  have HB := hid hB
  have Hg := hid hg
  clear hB hg h k
  obtain ⟨x0, x1, x2, x3⟩ := b0.cells
  have hg3 : g + 2 ≤ W0.drew.heap.size := by show g + 2 ≤ W0.heap.size; omega
  have b0' : B2 W0.drew g 24 p q A B n c m d := b0
  have Hsa := hid (sign_any p A n c a W0.drew h0)
  go_region_held3 (fun w' => w'.cell? ⟨g, 0, none⟩ = some (.bool p) ∧ w'.cell? ⟨g, 1, none⟩ = some (.slice A n c) ∧ w'.cell? ⟨g + 1, 0, none⟩ = some (.bool q) ∧ w'.cell? ⟨g + 1, 1, none⟩ = some (.slice B m d)) (first | exact ⟨x0, x1, x2, x3⟩ | exact ⟨y0, y1, y2, y3⟩ | exact ⟨z0, z1, z2, z3⟩) (first
    | (go_at_call 57; with_reducible refine (sign_any p A n c a W0.drew h0).mono ?_; rintro e w1 ⟨rfl, hb1⟩; have b1 := b0'.below hb1 hg3; obtain ⟨y0, y1, y2, y3⟩ := b1.cells)
    | (go_at_call 57; with_reducible refine (sign_any q B m d b _ (k0.below hb1)).mono ?_; rintro e w2 ⟨rfl, hb2⟩; have b2 := b1.below hb2 (by have := b1.lt; omega); obtain ⟨z0, z1, z2, z3⟩ := b2.cells))
  rw [Hs.out.1, Hs.out.2]
  have h3 := bthen (bthen HB.out.drew hb1 (Nat.le_refl _)) hb2 (Nat.le_refl _)
  go_wp2_with fail
  refine (compare_any s1 s2 _).mono ?_
  rintro e w3 ⟨rfl, rfl⟩
  rw [Hres.out]
  go_wp2
  go_ret
  exact ⟨rfl, h3⟩

end Go.Proofs.YtffipjofefemiaaGreatDoor

namespace Go.Proofs.YtffipjofefemiaaGreatDoor
open Go.RowKit Kb

theorem toZ_sign (p : Bool) (a : Nat) : (toZ p a).sign = if a = 0 then 0 else if p then -1 else 1 := by
  unfold toZ
  cases p <;> by_cases h0 : a = 0
  · subst h0; rfl
  · simp [h0]; omega
  · subst h0; rfl
  · simp [h0]; omega
theorem same_sign {p q : Bool} {a b : Nat} (h : (toZ p a).sign = (toZ q b).sign) : (a = 0 ∧ b = 0) ∨ (0 < a ∧ 0 < b ∧ p = q) := by
  rw [toZ_sign, toZ_sign] at h
  by_cases ha : a = 0 <;> by_cases hb : b = 0
  · exact .inl ⟨ha, hb⟩
  · rw [if_pos ha, if_neg hb] at h; cases q <;> simp at h
  · rw [if_neg ha, if_pos hb] at h; cases p <;> simp at h
  · rw [if_neg ha, if_neg hb] at h
    refine .inr ⟨by omega, by omega, ?_⟩
    cases p <;> cases q <;> simp at h <;> rfl
theorem cmp_pos {q : Bool} {a b : Nat} (h : (toZ false a).sign = (toZ q b).sign) : sgn a b = cmpZ (toZ false a) (toZ q b) := by
  have e : cmpZ (toZ false a) (toZ q b) = ((a : Int) - (b : Int)).sign := by
    rcases same_sign h with ⟨ha, hb⟩ | ⟨_, _, hq⟩
    · subst ha; subst hb; cases q <;> rfl
    · subst hq; rfl
  rw [e]
  unfold sgn
  rcases Nat.lt_trichotomy a b with h | h | h
  · rw [if_pos h, Int.sign_eq_neg_one_of_neg (by omega)]
  · subst h; rw [if_neg (by omega), if_pos rfl, Int.sub_self]; rfl
  · rw [if_neg (by omega), if_neg (by omega), Int.sign_eq_one_of_pos (by omega)]
theorem cmp_neg {q : Bool} {a b : Nat} (h : (toZ true a).sign = (toZ q b).sign) : sgn b a = cmpZ (toZ true a) (toZ q b) := by
  have e : cmpZ (toZ true a) (toZ q b) = ((b : Int) - (a : Int)).sign := by
    rcases same_sign h with ⟨ha, hb⟩ | ⟨_, _, hq⟩
    · subst ha; subst hb; cases q <;> rfl
    · subst hq
      show (-(a : Int) - -(b : Int)).sign = _
      congr 1
      omega
  rw [e]
  unfold sgn
  rcases Nat.lt_trichotomy b a with h | h | h
  · rw [if_pos h, Int.sign_eq_neg_one_of_neg (by omega)]
  · subst h; rw [if_neg (by omega), if_pos rfl, Int.sub_self]; rfl
  · rw [if_neg (by omega), if_neg (by omega), Int.sign_eq_one_of_pos (by omega)]

set_option maxRecDepth 100000 in
set_option maxHeartbeats 4000000 in
theorem Cmp_neg (q : Bool) (A B : Option Addr) (n c m d a b : Nat) (w : World) (h : Raw w A n c a) (k : Raw w B m d b) (hne : (toZ true a).sign = (toZ q b).sign) (_ha : (dig a).length ≤ 400000000) :
    Calls Tryz.prog 77 #[.agg #[.bool true, .slice A n c], .agg #[.bool q, .slice B m d]] w fun e w' => e = .returned (.int .i64 (cmpZ (toZ true a) (toZ q b))) ∧ Below w.heap.size w w' := by
  have Hres := hid (cmp_neg hne)
  have hss : ((toZ true a).sign != (toZ q b).sign) = false := by rw [hne]; simp
  have b0 := B2.new w 24 true q A B n c m d
  have hB := ((Below.refl w.heap.size w).alloc (Nat.le_refl _) (.cells #[.bool true, .slice A n c] 24)).alloc (by simp) (.cells #[.bool q, .slice B m d] 24)
  generalize hs1 : (toZ true a).sign = s1 at *
  generalize hs2 : (toZ q b).sign = s2 at *
  have Hs := hid (And.intro hs1 hs2)
  clear hs1 hs2 hne
  obtain ⟨g, hg⟩ : ∃ g, w.heap.size = g := ⟨_, rfl⟩
  go_enter Tryz.func77, Tryz.ntmps77
  go_wp2_with fail
  rw [hg] at b0
  generalize (w.alloc (.cells #[.bool true, .slice A n c] 24)).alloc (.cells #[.bool q, .slice B m d] 24) = W0 at *
  have h0 : Raw W0.drew A n c a := h.below hB.drew
  have k0 : Raw W0.drew B m d b := k.below hB.drew
  have hl0 := b0.lt
  have HB := hid hB
  have Hg := hid hg
  clear hB hg h k
  obtain ⟨x0, x1, x2, x3⟩ := b0.cells
  have hg3 : g + 2 ≤ W0.drew.heap.size := by show g + 2 ≤ W0.heap.size; omega
  have b0' : B2 W0.drew g 24 true q A B n c m d := b0
  have Hsa := hid (sign_any true A n c a W0.drew h0)
  go_region_held3 (fun w' => w'.cell? ⟨g, 0, none⟩ = some (.bool true) ∧ w'.cell? ⟨g, 1, none⟩ = some (.slice A n c) ∧ w'.cell? ⟨g + 1, 0, none⟩ = some (.bool q) ∧ w'.cell? ⟨g + 1, 1, none⟩ = some (.slice B m d)) (first | exact ⟨x0, x1, x2, x3⟩ | exact ⟨y0, y1, y2, y3⟩ | exact ⟨z0, z1, z2, z3⟩) (first
    | (go_at_call 57; with_reducible refine (sign_any true A n c a W0.drew h0).mono ?_; rintro e w1 ⟨rfl, hb1⟩; have b1 := b0'.below hb1 hg3; obtain ⟨y0, y1, y2, y3⟩ := b1.cells)
    | (go_at_call 57; with_reducible refine (sign_any q B m d b _ (k0.below hb1)).mono ?_; rintro e w2 ⟨rfl, hb2⟩; have b2 := b1.below hb2 (by have := b1.lt; omega); obtain ⟨z0, z1, z2, z3⟩ := b2.cells))
  rw [Hs.out.1, Hs.out.2]
  have h3 := bthen (bthen HB.out.drew hb1 (Nat.le_refl _)) hb2 (Nat.le_refl _)
  go_wp2_with fail
  have h0' := (h0.below hb1).below hb2
  have k0' := (k0.below hb1).below hb2
  clear h0 k0 hb1 hb2 x0 x1 x2 x3 y0 y1 y2 y3 hl0 hg3 b0 b0' b1
  have h0 : Raw w2.drew A n c a := h0'
  have k0 : Raw w2.drew B m d b := k0'
  have b2' : B2 w2.drew g 24 true q A B n c m d := b2
  have hl2 := b2.lt
  have hg3 : g + 2 ≤ w2.drew.heap.size := by show g + 2 ≤ w2.heap.size; omega
  go_region_held3 (fun w' => w'.cell? ⟨g, 0, none⟩ = some (.bool true) ∧ w'.cell? ⟨g, 1, none⟩ = some (.slice A n c) ∧ w'.cell? ⟨g + 1, 0, none⟩ = some (.bool q) ∧ w'.cell? ⟨g + 1, 1, none⟩ = some (.slice B m d)) (first | exact ⟨z0, z1, z2, z3⟩ | exact ⟨y0, y1, y2, y3⟩ | exact ⟨t0, t1, t2, t3⟩ | exact ⟨r0, r1, r2, r3⟩) (first
    | (go_at_call 76; with_reducible refine (size_any q B m d b _ k0).mono ?_; rintro e w3 ⟨v1, rfl, hv1, hb3⟩; have b3 := b2'.below hb3 (by first | exact hg3 | (have := b2'.lt; omega)); obtain ⟨y0, y1, y2, y3⟩ := b3.cells)
    | (go_at_call 76; with_reducible refine (size_any true A n c a _ (h0.below hb3)).mono ?_; rintro e w4 ⟨v2, rfl, hv2, hb4⟩; have b4 := b3.below hb4 (by first | exact hg3 | (have := b3.lt; omega)); obtain ⟨t0, t1, t2, t3⟩ := b4.cells)
    | (go_at_call 75; with_reducible refine (compareLimbs_nm (hv1.below hb4) hv2).mono ?_; rintro e w5 ⟨rfl, hq5⟩; have b5 := b4.below (hq5.below w4.heap.size) (by have := b4.lt; omega); obtain ⟨r0, r1, r2, r3⟩ := b5.cells))
  rw [Hres.out]
  have h7 := bthen (bthen h3.drew hb3 (Nat.le_refl _)) hb4 (Nat.le_refl _)
  have h8 := h7.trans (hq5.below _)
  go_wp2
  go_ret
  exact ⟨rfl, h8⟩

set_option maxRecDepth 100000 in
set_option maxHeartbeats 4000000 in
theorem Cmp_pos (q : Bool) (A B : Option Addr) (n c m d a b : Nat) (w : World) (h : Raw w A n c a) (k : Raw w B m d b) (hne : (toZ false a).sign = (toZ q b).sign) (_ha : (dig a).length ≤ 400000000) :
    Calls Tryz.prog 77 #[.agg #[.bool false, .slice A n c], .agg #[.bool q, .slice B m d]] w fun e w' => e = .returned (.int .i64 (cmpZ (toZ false a) (toZ q b))) ∧ Below w.heap.size w w' := by
  have Hres := hid (cmp_pos hne)
  have hss : ((toZ false a).sign != (toZ q b).sign) = false := by rw [hne]; simp
  have b0 := B2.new w 24 false q A B n c m d
  have hB := ((Below.refl w.heap.size w).alloc (Nat.le_refl _) (.cells #[.bool false, .slice A n c] 24)).alloc (by simp) (.cells #[.bool q, .slice B m d] 24)
  generalize hs1 : (toZ false a).sign = s1 at *
  generalize hs2 : (toZ q b).sign = s2 at *
  have Hs := hid (And.intro hs1 hs2)
  clear hs1 hs2 hne
  obtain ⟨g, hg⟩ : ∃ g, w.heap.size = g := ⟨_, rfl⟩
  go_enter Tryz.func77, Tryz.ntmps77
  go_wp2_with fail
  rw [hg] at b0
  generalize (w.alloc (.cells #[.bool false, .slice A n c] 24)).alloc (.cells #[.bool q, .slice B m d] 24) = W0 at *
  have h0 : Raw W0.drew A n c a := h.below hB.drew
  have k0 : Raw W0.drew B m d b := k.below hB.drew
  have hl0 := b0.lt
  have HB := hid hB
  have Hg := hid hg
  clear hB hg h k
  obtain ⟨x0, x1, x2, x3⟩ := b0.cells
  have hg3 : g + 2 ≤ W0.drew.heap.size := by show g + 2 ≤ W0.heap.size; omega
  have b0' : B2 W0.drew g 24 false q A B n c m d := b0
  have Hsa := hid (sign_any false A n c a W0.drew h0)
  go_region_held3 (fun w' => w'.cell? ⟨g, 0, none⟩ = some (.bool false) ∧ w'.cell? ⟨g, 1, none⟩ = some (.slice A n c) ∧ w'.cell? ⟨g + 1, 0, none⟩ = some (.bool q) ∧ w'.cell? ⟨g + 1, 1, none⟩ = some (.slice B m d)) (first | exact ⟨x0, x1, x2, x3⟩ | exact ⟨y0, y1, y2, y3⟩ | exact ⟨z0, z1, z2, z3⟩) (first
    | (go_at_call 57; with_reducible refine (sign_any false A n c a W0.drew h0).mono ?_; rintro e w1 ⟨rfl, hb1⟩; have b1 := b0'.below hb1 hg3; obtain ⟨y0, y1, y2, y3⟩ := b1.cells)
    | (go_at_call 57; with_reducible refine (sign_any q B m d b _ (k0.below hb1)).mono ?_; rintro e w2 ⟨rfl, hb2⟩; have b2 := b1.below hb2 (by have := b1.lt; omega); obtain ⟨z0, z1, z2, z3⟩ := b2.cells))
  rw [Hs.out.1, Hs.out.2]
  have h3 := bthen (bthen HB.out.drew hb1 (Nat.le_refl _)) hb2 (Nat.le_refl _)
  go_wp2_with fail
  have h0' := (h0.below hb1).below hb2
  have k0' := (k0.below hb1).below hb2
  clear h0 k0 hb1 hb2 x0 x1 x2 x3 y0 y1 y2 y3 hl0 hg3 b0 b0' b1
  have h0 : Raw w2.drew A n c a := h0'
  have k0 : Raw w2.drew B m d b := k0'
  have b2' : B2 w2.drew g 24 false q A B n c m d := b2
  have hl2 := b2.lt
  have hg3 : g + 2 ≤ w2.drew.heap.size := by show g + 2 ≤ w2.heap.size; omega
  go_region_held3 (fun w' => w'.cell? ⟨g, 0, none⟩ = some (.bool false) ∧ w'.cell? ⟨g, 1, none⟩ = some (.slice A n c) ∧ w'.cell? ⟨g + 1, 0, none⟩ = some (.bool q) ∧ w'.cell? ⟨g + 1, 1, none⟩ = some (.slice B m d)) (first | exact ⟨z0, z1, z2, z3⟩ | exact ⟨y0, y1, y2, y3⟩ | exact ⟨t0, t1, t2, t3⟩ | exact ⟨r0, r1, r2, r3⟩) (first
    | (go_at_call 76; with_reducible refine (size_any false A n c a _ h0).mono ?_; rintro e w3 ⟨v1, rfl, hv1, hb3⟩; have b3 := b2'.below hb3 (by first | exact hg3 | (have := b2'.lt; omega)); obtain ⟨y0, y1, y2, y3⟩ := b3.cells)
    | (go_at_call 76; with_reducible refine (size_any q B m d b _ (k0.below hb3)).mono ?_; rintro e w4 ⟨v2, rfl, hv2, hb4⟩; have b4 := b3.below hb4 (by first | exact hg3 | (have := b3.lt; omega)); obtain ⟨t0, t1, t2, t3⟩ := b4.cells)
    | (go_at_call 75; with_reducible refine (compareLimbs_nm (hv1.below hb4) hv2).mono ?_; rintro e w5 ⟨rfl, hq5⟩; have b5 := b4.below (hq5.below w4.heap.size) (by have := b4.lt; omega); obtain ⟨r0, r1, r2, r3⟩ := b5.cells))
  rw [Hres.out]
  have h7 := bthen (bthen h3.drew hb3 (Nat.le_refl _)) hb4 (Nat.le_refl _)
  have h8 := h7.trans (hq5.below _)
  go_wp2
  go_ret
  exact ⟨rfl, h8⟩

theorem Cmp_any (p q : Bool) (A B : Option Addr) (n c m d a b : Nat) (w : World) (h : Raw w A n c a) (k : Raw w B m d b) (ha : (dig a).length ≤ 400000000) :
    Calls Tryz.prog 77 #[.agg #[.bool p, .slice A n c], .agg #[.bool q, .slice B m d]] w fun e w' => e = .returned (.int .i64 (cmpZ (toZ p a) (toZ q b))) ∧ Below w.heap.size w w' := by
  by_cases hne : (toZ p a).sign = (toZ q b).sign
  · cases p
    · exact Cmp_pos q A B n c m d a b w h k hne ha
    · exact Cmp_neg q A B n c m d a b w h k hne ha
  · exact Cmp_signs p q A B n c m d a b w h k hne

end Go.Proofs.YtffipjofefemiaaGreatDoor

namespace Go.Proofs.YtffipjofefemiaaGreatDoor
open Go.RowKit Kb

set_option maxRecDepth 100000 in
set_option maxHeartbeats 2000000 in
theorem SameInt_true (p : Bool) (A B : Option Addr) (n c m d a : Nat) (w : World) (h : Nm w (.slice A n c) a) (k : Nm w (.slice B m d) a) :
    Calls Tryz.prog 27 #[.agg #[.bool p, .slice A n c], .agg #[.bool p, .slice B m d]] w fun e w' => e = .returned (.bool true) ∧ Below w.heap.size w w' := by
  have hlen := h.len
  obtain ⟨A', c', e, h1, h2, h3⟩ := h
  obtain ⟨B', d', e', k1, k2, k3⟩ := k
  injection e with e1 e2 e3
  injection e' with e1' e2' e3'
  subst e1; subst e2; subst e3; subst e1'; subst e2'; subst e3'
  have hpp : (p == p) = true := by cases p <;> rfl
  have hll : (((dig a).length : Int) != ((dig a).length : Int)) = false := by simp
  have b0 := B2.new w 24 p p A B (dig a).length c (dig a).length d
  have hB := ((Below.refl w.heap.size w).alloc (Nat.le_refl _) (.cells #[.bool p, .slice A (dig a).length c] 24)).alloc (by simp) (.cells #[.bool p, .slice B (dig a).length d] 24)
  obtain ⟨g, hg⟩ : ∃ g, w.heap.size = g := ⟨_, rfl⟩
  go_enter Tryz.func27, Tryz.ntmps27
  go_wp2
  rw [hg] at b0
  generalize (w.alloc (.cells #[.bool p, .slice A (dig a).length c] 24)).alloc (.cells #[.bool p, .slice B (dig a).length d] 24) = W0 at *
  have HB := hid hB
  have Hg := hid hg
  have h0 := h1.below hB
  have k0 := k1.below hB
  clear hB hg h1 k1
  go_loopw [5] (fun iv wr => ∃ i : Nat, i ≤ (dig a).length ∧ iv = .int .i64 i ∧ Qt W0 wr) (fun iv _ => (dig a).length - (intOf iv).toNat)
  case atStart => exact ⟨0, Nat.zero_le _, rfl, Qt.refl _⟩
  case round =>
    obtain ⟨i, hi, rfl, hq⟩ := hrel
    have b1 := b0.below (hq.below W0.heap.size) (by have := b0.lt; omega)
    obtain ⟨x0, x1, x2, x3⟩ := b1.cells
    by_cases hlt : i < (dig a).length
    · obtain ⟨ad, rfl, hb1, hcell⟩ := (h0.qt hq) i hlt
      obtain ⟨bd, rfl, hb2, hcell2⟩ := (k0.qt hq) i hlt
      have hee : (((nth (dig a) i : Nat) : Int) != ((nth (dig a) i : Nat) : Int)) = false := by simp
      go_wp2
      go_quiet (fail)
      go_wp2
      go_roundw
      case rel => exact ⟨i + 1, hlt, by go_num, hq.drewN _⟩
      case measure => simp [intOf]; omega
    · have hbb := bthen HB.out (hq.below _) (Nat.le_refl _)
      go_wp2
      go_ret
      exact ⟨rfl, hbb⟩

theorem SameInt_nz {v u : Value} {z : Int} {w : World} (h : Nz w v z) (k : Nz w u z) :
    Calls Tryz.prog 27 #[v, u] w fun e w' => e = .returned (.bool true) ∧ Below w.heap.size w w' := by
  obtain ⟨A, n, c, rfl, h1⟩ := h
  obtain ⟨B, m, d, rfl, k1⟩ := k
  exact SameInt_true _ A B n c m d _ w h1 k1

end Go.Proofs.YtffipjofefemiaaGreatDoor

namespace Go.Proofs.YtffipjofefemiaaGreatDoor
open Go.RowKit Kb

theorem Nm.of_own {w : World} {base n : Nat} {v : Value} {o : List Nat} {a : Nat} (h : w.ownsRow base 92 1 v n (vals .u16 o)) (ha : dig a = o) : Nm w v a := by
  have hl := h.1
  rw [vals_length] at hl
  subst ha
  rcases id h.2 with ⟨e, h0⟩ | ⟨g, cap, cur, e, _, _, h1, h2, _⟩
  · subst h0
    have : a = 0 := dig_nil_iff.1 (List.eq_nil_of_length_eq_zero (by omega))
    subst this
    rw [e]
    exact nm_nil w
  · have hn : n = (dig a).length := by omega
    subst hn
    subst e
    exact ⟨_, cap, rfl, Sl.of_own h, h1, h2⟩

set_option maxRecDepth 100000 in
set_option maxHeartbeats 2000000 in
theorem limbs_any (a : Nat) (w : World) (ha : a < 18446744073709551616) :
    Calls Tryz.prog 102 #[.int .u64 a] w fun e w' => ∃ v, e = .returned v ∧ Nm w' v a ∧ Below w.heap.size w w' := by
  have hla : (dig a).length ≤ 4 := dig_length_le (by rw [show (65536 : Nat) ^ 4 = 18446744073709551616 from rfl]; exact ha)
  have Ha := hid ha; clear ha
  obtain ⟨i0, hi, hz0, hz1, hz2⟩ := info_parts Tryz.info16
  go_enter Tryz.func102, Tryz.ntmps102
  go_wp2
  go_loopw [0, 3] (fun x v wr => ∃ (r : Nat) (o : List Nat) (vv : Value), dig a = o ++ dig r ∧ x = .int .u64 r ∧ r ≤ a ∧ vv = v ∧ wr.ownsRow w.heap.size 92 1 vv o.length (vals .u16 o) ∧ Below w.heap.size w wr) (fun x _ _ => (intOf x).toNat)
  case atStart => exact ⟨a, [], _, rfl, rfl, Nat.le_refl _, rfl, World.ownsRow_nil _ _ _ _, Below.refl _ _⟩
  case round =>
    obtain ⟨r, o, v, hd, rfl, hra, hvv, hown, hbel⟩ := hrel
    subst hvv
    have Hd := hid hd; clear hd
    by_cases hr : r = 0
    · have Hd2 := hid (dig_rest Hd.out hr)
      have hr' : ¬ (0 : Int) < (r : Int) := by omega
      clear hr
      go_wp2
      go_ret
      exact ⟨_, rfl, Nm.of_own hown Hd2.out, hbel⟩
    · have hr' : (0 : Int) < (r : Int) := by omega
      have hroom := room_of Hd.out hr hla
      obtain ⟨x, hx⟩ : ∃ x, x = r % 65536 := ⟨_, rfl⟩
      have hd2 := dig_out Hd.out hr
      rw [← hx] at hd2
      have Hd2 := hid hd2
      have hm : bits .and .u64 (r : Int) 65535 = (x : Int) := by
        rw [hx, show (65535 : Int) = ((65535 : Nat) : Int) from rfl, u64_and_nat _ _ (by have := Ha.out; omega) (by decide)]
        have := Nat.and_two_pow_sub_one_eq_mod r 16
        rw [show (2 : Nat) ^ 16 - 1 = 65535 from rfl, show (2 : Nat) ^ 16 = 65536 from rfl] at this
        rw [this]
      have hxw : IntKind.u16.wrap (x : Int) = (x : Int) := by rw [IntKind.wrap_u16]; omega
      have hsz := hbel.size
      have hrp : 0 < r := by omega
      clear hx hd2 hr
      go_wp2_with (at_builtin; (refine wpList_append_own _ rfl (.tmp 8) (.tmp 12) 22 rfl w.heap.size 92 i0 (.int .u16 0) 1 2 Tryz.underlying22 hi hz0 hz1 hz2 rfl (by decide) v o.length (vals .u16 o) rfl (hown.alloc _) ⟨wr.heap.size, 0, none⟩ 1 1 [.int .u16 (x : Int)] rfl rfl (cell_one_new _ _ _) (one_cell _ rfl) (by unfold maxLen; omega) (by omega) (by simp; omega) ?_))
      intro v' w1 hown1 hgrow1 _
      have hl1 := hown.lt
      have hb1 := (hbel.alloc hsz (.cells #[.int .u16 (x : Int)] 92)).grown hgrow1 (by simp; omega) (fun k hk => (hl1 k hk).1)
      rw [vals_snoc .u16 o x _ rfl, show o.length + 1 = (o ++ [x]).length from by simp] at hown1
      have Hown := hid hown1
      clear hown1 hown hgrow1 hl1 hm hxw
      go_wp2
      go_roundw
      case rel => exact ⟨r / 65536, _, _, Hd2.out, by go_num, by omega, rfl, Hown.out, hb1⟩
      case measure => simp [intOf]; omega

set_option maxRecDepth 100000 in
set_option maxHeartbeats 1000000 in
theorem Z_any (z : Int) (w : World) (h1 : -9223372036854775808 ≤ z) (h2 : z ≤ 9223372036854775807) :
    Calls Tryz.prog 53 #[.int .i64 z] w fun e w' => ∃ v, e = .returned v ∧ Nz w' v z ∧ Below w.heap.size w w' := by
  have hb0 := fun o => (Below.refl w.heap.size w).alloc (Nat.le_refl _) o
  by_cases hz : z < 0
  · go_enter Tryz.func53, Tryz.ntmps53
    go_wp2_with fail
    rw [show -(z + 1) + 1 = (z.natAbs : Int) by omega]
    refine (limbs_any z.natAbs _ (by omega)).mono ?_
    rintro e w1 ⟨v1, rfl, hv1, hb1⟩
    obtain ⟨A, c, rfl, hq⟩ := id hv1
    have hb4 := bthen (hb0 _) hb1 (Nat.le_refl _)
    have c0 := box_cell hb1 0
    have c1 := box_cell hb1 1
    have f0 := box_frozen hb1 0
    have f1 := box_frozen hb1 1
    have hbx := hid (box_heap hb1)
    have hz' := box_size hb1
    have h5 := (hb4.setCell (p := ⟨w.heap.size, 0, none⟩) (Nat.le_refl _) (.bool true)).setCell (p := ⟨w.heap.size, 1, none⟩) (Nat.le_refl _) (.slice A (dig z.natAbs).length c)
    have hn5 := hv1.offbox hbx.out (noInt_zero _ _ _ _) (gb2 _ w.heap.size 0 1 (.bool true) (.slice A (dig z.natAbs).length c))
    clear hq
    simp at c0 c1
    go_wp2
    refine bodyPost_ret (v := .agg #[.bool true, .slice A (dig z.natAbs).length c]) (by simp [results, Tryz.results53, go_sem, c0, c1]) rfl ⟨_, rfl, ⟨A, (dig z.natAbs).length, c, ?_, ?_⟩, h5⟩
    · rw [decide_eq_true hz]
    · exact hn5
  · obtain ⟨n, rfl⟩ : ∃ n : Nat, z = n := ⟨z.toNat, by omega⟩
    go_enter Tryz.func53, Tryz.ntmps53
    go_wp2_with fail
    refine (limbs_any n _ (by omega)).mono ?_
    rintro e w1 ⟨v1, rfl, hv1, hb1⟩
    obtain ⟨A, c, rfl, hq⟩ := id hv1
    have hb4 := bthen (hb0 _) hb1 (Nat.le_refl _)
    have c0 := box_cell hb1 0
    have c1 := box_cell hb1 1
    have f0 := box_frozen hb1 0
    have f1 := box_frozen hb1 1
    have hbx := hid (box_heap hb1)
    have hz' := box_size hb1
    have h5 := (hb4.setCell (p := ⟨w.heap.size, 0, none⟩) (Nat.le_refl _) (.bool false)).setCell (p := ⟨w.heap.size, 1, none⟩) (Nat.le_refl _) (.slice A (dig n).length c)
    have hn5 := hv1.offbox hbx.out (noInt_zero _ _ _ _) (gb2 _ w.heap.size 0 1 (.bool false) (.slice A (dig n).length c))
    clear hq
    simp at c0 c1
    go_wp2
    refine bodyPost_ret (v := .agg #[.bool false, .slice A (dig n).length c]) (by simp [results, Tryz.results53, go_sem, c0, c1]) rfl ⟨_, rfl, ⟨A, (dig n).length, c, ?_, ?_⟩, h5⟩
    · rw [decide_eq_false (by omega)]
    · rw [Int.natAbs_natCast]; exact hn5

end Go.Proofs.YtffipjofefemiaaGreatDoor

namespace Go.Proofs.YtffipjofefemiaaGreatDoor
open Go.RowKit Kb

/-- The value v is a pair of integers, each normalized. -/
def Rz (w : World) (v : Value) (x y : Int) : Prop :=
  ∃ s1 A1 n1 c1 s2 A2 n2 c2, v = .agg #[.bool s1, .slice A1 n1 c1, .bool s2, .slice A2 n2 c2] ∧ Hid (s1 = decide (x < 0)) ∧ Hid (s2 = decide (y < 0)) ∧ Nm w (.slice A1 n1 c1) x.natAbs ∧ Nm w (.slice A2 n2 c2) y.natAbs
theorem Rz.below {w w' : World} {v : Value} {x y : Int} (h : Rz w v x y) (hb : Below w.heap.size w w') : Rz w' v x y := by
  obtain ⟨s1, A1, n1, c1, s2, A2, n2, c2, e, e1, e2, h1, h2⟩ := h
  exact ⟨s1, A1, n1, c1, s2, A2, n2, c2, e, e1, e2, h1.below hb, h2.below hb⟩
theorem noInt_four (a b : Bool) (A B : Option Addr) (n c m d : Nat) : NoInt #[.bool a, .slice A n c, .bool b, .slice B m d] :=
  noInt4 (fun _ _ => by simp) (fun _ _ => by simp) (fun _ _ => by simp) (fun _ _ => by simp)
/-- Four stores into one box. -/
def put4 (w : World) (g : Nat) (a b c d : Value) : World := (((w.setCell ⟨g, 0, none⟩ a).setCell ⟨g, 1, none⟩ b).setCell ⟨g, 2, none⟩ c).setCell ⟨g, 3, none⟩ d
theorem gb4 (w : World) (g : Nat) (a b c d : Value) : w.grownBy (put4 w g a b c d) (some g) := gb_set (gb_set (gb2 w g 0 1 a b) 2 c) 3 d
theorem below4 {B : Nat} {w0 w : World} {g : Nat} (h : Below B w0 w) (hg : B ≤ g) (a b c d : Value) : Below B w0 (put4 w g a b c d) :=
  (((h.setCell (p := ⟨g, 0, none⟩) hg a).setCell (p := ⟨g, 1, none⟩) hg b).setCell (p := ⟨g, 2, none⟩) hg c).setCell (p := ⟨g, 3, none⟩) hg d

set_option maxRecDepth 100000 in
set_option maxHeartbeats 1000000 in
theorem W_any (z : Int) (w : World) (h1 : -9223372036854775808 ≤ z) (h2 : z ≤ 9223372036854775807) :
    Calls Tryz.prog 50 #[.int .i64 z] w fun e w' => ∃ v, e = .returned v ∧ Rz w' v z 1 ∧ Below w.heap.size w w' := by
  have hb0 := fun o => (Below.refl w.heap.size w).alloc (Nat.le_refl _) o
  go_enter Tryz.func50, Tryz.ntmps50
  go_wp2_with fail
  refine (nz_openb (Z_any z _ h1 h2)).mono ?_
  rintro e w1 ⟨s1, A1, n1, c1, rfl, hs1, hn1, hb1⟩
  go_wp2_with fail
  refine (nz_openb (Z_any 1 _ (by decide) (by decide))).mono ?_
  rintro e w2 ⟨s2, A2, n2, c2, rfl, hs2, hn2, hb2⟩
  have hb3 := bthen hb1 hb2 (Nat.le_refl _)
  have hb4 := bthen (hb0 _) hb3 (Nat.le_refl _)
  have c0 := box_cell hb3 0
  have c1' := box_cell hb3 1
  have c2' := box_cell hb3 2
  have c3 := box_cell hb3 3
  have f0 := box_frozen hb3 0
  have f1 := box_frozen hb3 1
  have f2 := box_frozen hb3 2
  have f3 := box_frozen hb3 3
  have hbx := hid (box_heap hb3)
  have h5 := hid (below4 hb4 (Nat.le_refl _) (.bool s1) (.slice A1 n1 c1) (.bool s2) (.slice A2 n2 c2))
  have m1 := hid ((hn1.below hb2).offbox hbx.out (noInt_four _ _ _ _ _ _ _ _) (gb4 _ _ (.bool s1) (.slice A1 n1 c1) (.bool s2) (.slice A2 n2 c2)))
  have m2 := hid (hn2.offbox hbx.out (noInt_four _ _ _ _ _ _ _ _) (gb4 _ _ (.bool s1) (.slice A1 n1 c1) (.bool s2) (.slice A2 n2 c2)))
  clear hb1 hb2 hb3 hb4 hn1 hn2 hb0
  simp at c0 c1' c2' c3
  go_wp2
  exact bodyPost_ret (v := .agg #[.bool s1, .slice A1 n1 c1, .bool s2, .slice A2 n2 c2]) (by simp [results, Tryz.results50, go_sem, c0, c1', c2', c3]) rfl ⟨_, rfl, ⟨s1, A1, n1, c1, s2, A2, n2, c2, rfl, hs1, hs2, m1.out, m2.out⟩, h5.out⟩

theorem cells4 {W : World} {g : Nat} {a b c d : Value} {T : TypeId} (h : W.heap[g]? = some (.cells #[a, b, c, d] T (0, 0))) :
    W.cell? ⟨g, 0, none⟩ = some a ∧ W.cell? ⟨g, 1, none⟩ = some b ∧ W.cell? ⟨g, 2, none⟩ = some c ∧ W.cell? ⟨g, 3, none⟩ = some d ∧ W.frozen? ⟨g, 0, none⟩ = false ∧ W.frozen? ⟨g, 1, none⟩ = false ∧ W.frozen? ⟨g, 2, none⟩ = false ∧ W.frozen? ⟨g, 3, none⟩ = false := by
  refine ⟨?_, ?_, ?_, ?_, ?_, ?_, ?_, ?_⟩
  · rw [cell_of_row W _ _ _ T (0, 0) h]; rfl
  · rw [cell_of_row W _ _ _ T (0, 0) h]; rfl
  · rw [cell_of_row W _ _ _ T (0, 0) h]; rfl
  · rw [cell_of_row W _ _ _ T (0, 0) h]; rfl
  all_goals simp [World.frozen?, h]
theorem cells2 {W : World} {g : Nat} {a b : Value} {T : TypeId} (h : W.heap[g]? = some (.cells #[a, b] T (0, 0))) :
    W.cell? ⟨g, 0, none⟩ = some a ∧ W.cell? ⟨g, 1, none⟩ = some b ∧ W.frozen? ⟨g, 0, none⟩ = false ∧ W.frozen? ⟨g, 1, none⟩ = false := by
  refine ⟨?_, ?_, ?_, ?_⟩
  · rw [cell_of_row W _ _ _ T (0, 0) h]; rfl
  · rw [cell_of_row W _ _ _ T (0, 0) h]; rfl
  all_goals simp [World.frozen?, h]
/-- Two new boxes. -/
theorem two_new (w : World) (o1 o2 : Obj) : ((w.alloc o1).alloc o2).heap[w.heap.size]? = some o1 ∧ ((w.alloc o1).alloc o2).heap[w.heap.size + 1]? = some o2 := by
  constructor
  · rw [Below.heap_alloc _ _ _ (by simp)]; exact heap_alloc_new w _
  · have := heap_alloc_new (w.alloc o1) o2
    simpa using this

set_option maxRecDepth 100000 in
set_option maxHeartbeats 2000000 in
theorem SameRat_true {v u : Value} {x y : Int} {w : World} (h : Rz w v x y) (k : Rz w u x y) :
    Calls Tryz.prog 16 #[v, u] w fun e w' => e = .returned (.bool true) ∧ Below w.heap.size w w' := by
  obtain ⟨s1, A1, n1, c1, s2, A2, n2, c2, rfl, e1, e2, h1, h2⟩ := h
  obtain ⟨t1, B1, m1, d1, t2, B2, m2, d2, rfl, e1', e2', k1, k2⟩ := k
  obtain rfl : s1 = t1 := e1.out.trans e1'.out.symm
  obtain rfl : s2 = t2 := e2.out.trans e2'.out.symm
  have b0 := two_new w (.cells #[.bool s1, .slice A1 n1 c1, .bool s2, .slice A2 n2 c2] 26) (.cells #[.bool s1, .slice B1 m1 d1, .bool s2, .slice B2 m2 d2] 26)
  have hB := ((Below.refl w.heap.size w).alloc (Nat.le_refl _) (.cells #[.bool s1, .slice A1 n1 c1, .bool s2, .slice A2 n2 c2] 26)).alloc (by simp) (.cells #[.bool s1, .slice B1 m1 d1, .bool s2, .slice B2 m2 d2] 26)
  obtain ⟨g, hg⟩ : ∃ g, w.heap.size = g := ⟨_, rfl⟩
  go_enter Tryz.func16, Tryz.ntmps16
  go_wp2_with fail
  rw [hg] at b0
  generalize (w.alloc (.cells #[.bool s1, .slice A1 n1 c1, .bool s2, .slice A2 n2 c2] 26)).alloc (.cells #[.bool s1, .slice B1 m1 d1, .bool s2, .slice B2 m2 d2] 26) = W0 at *
  have HB := hid hB
  have Hg := hid hg
  have a1 := h1.below hB
  have a2 := h2.below hB
  have a3 := k1.below hB
  have a4 := k2.below hB
  have hlt := (Array.getElem?_eq_some_iff.1 b0.2).1
  clear hB hg h1 h2 k1 k2
  refine (SameInt_true s1 A1 B1 n1 c1 m1 d1 _ _ a1 a3).mono ?_
  rintro e w1 ⟨rfl, hb1⟩
  have x1 := cells4 ((hb1.block _ (by omega)).trans b0.1)
  have x2 := cells4 ((hb1.block _ hlt).trans b0.2)
  obtain ⟨y0, y1, y2, y3, _⟩ := x1
  obtain ⟨z0, z1, z2, z3, _⟩ := x2
  go_wp2_with fail
  refine (SameInt_true s2 A2 B2 n2 c2 m2 d2 _ _ (a2.below hb1) (a4.below hb1)).mono ?_
  rintro e w2 ⟨rfl, hb2⟩
  have h5 := bthen (bthen HB.out hb1 (Nat.le_refl _)) hb2 (Nat.le_refl _)
  go_wp2
  go_ret
  exact ⟨rfl, h5⟩

end Go.Proofs.YtffipjofefemiaaGreatDoor

namespace Go.Proofs.YtffipjofefemiaaGreatDoor
open Go.RowKit Kb

/-- Two boxes that stand. -/
def P2 (W : World) (g : Nat) (o1 o2 : Obj) : Prop := W.heap[g]? = some o1 ∧ W.heap[g + 1]? = some o2
theorem P2.below {W W' : World} {g N : Nat} {o1 o2 : Obj} (h : P2 W g o1 o2) (hb : Below N W W') (hN : g + 2 ≤ N) : P2 W' g o1 o2 :=
  ⟨(hb.block _ (by omega)).trans h.1, (hb.block _ (by omega)).trans h.2⟩
theorem P2.lt {W : World} {g : Nat} {o1 o2 : Obj} (h : P2 W g o1 o2) : g + 1 < W.heap.size := (Array.getElem?_eq_some_iff.1 h.2).1
theorem P2.one {W : World} {g : Nat} {o1 o2 : Obj} (h : P2 W g o1 o2) : W.heap[g]? = some o1 := h.1
theorem P2.two {W : World} {g : Nat} {o1 o2 : Obj} (h : P2 W g o1 o2) : W.heap[g + 1]? = some o2 := h.2
theorem P2.new (w : World) (o1 o2 : Obj) : P2 ((w.alloc o1).alloc o2) w.heap.size o1 o2 := two_new w o1 o2

set_option maxRecDepth 100000 in
set_option maxHeartbeats 4000000 in
theorem duplicate_any (p : Bool) (A : Option Addr) (n c a : Nat) (w : World) (h : Raw w A n c a) (ha : (dig a).length ≤ 400000000) :
    Calls Tryz.prog 73 #[.agg #[.bool p, .slice A n c]] w fun e w' => ∃ v, e = .returned v ∧ Nz w' v (toZ p a) ∧ Below w.heap.size w w' := by
  have b0 := P2.new w (.cells #[.bool p, .slice A n c] 24) (.cells #[.bool false, .slice none 0 0] 24)
  have hB := ((Below.refl w.heap.size w).alloc (Nat.le_refl _) (.cells #[.bool p, .slice A n c] 24)).alloc (by simp) (.cells #[.bool false, .slice none 0 0] 24)
  obtain ⟨g, hg⟩ : ∃ g, w.heap.size = g := ⟨_, rfl⟩
  go_enter Tryz.func73, Tryz.ntmps73
  go_wp2_with fail
  rw [hg] at b0
  generalize (w.alloc (.cells #[.bool p, .slice A n c] 24)).alloc (.cells #[.bool false, .slice none 0 0] 24) = W0 at *
  have HB := hid hB
  have Hg := hid hg
  have h0 : Raw W0.drew A n c a := h.below hB.drew
  have hl0 := b0.lt
  clear hB hg h
  obtain ⟨x0, x1, _, _⟩ := cells2 b0.one
  have hg3 : g + 2 ≤ W0.drew.heap.size := by show g + 2 ≤ W0.heap.size; omega
  have b0' : P2 W0.drew g (.cells #[.bool p, .slice A n c] 24) (.cells #[.bool false, .slice none 0 0] 24) := b0
  go_region_held3 (fun w' => w'.cell? ⟨g, 0, none⟩ = some (.bool p) ∧ w'.cell? ⟨g, 1, none⟩ = some (.slice A n c)) (first | exact ⟨x0, x1⟩ | exact ⟨y0, y1⟩ | exact ⟨z0, z1⟩ | exact ⟨t0, t1⟩ | exact ⟨off_two (by omega) t0, off_two (by omega) t1⟩) (first
    | (go_at_call 76; with_reducible refine (size_any p A n c a W0.drew h0).mono ?_; rintro e w1 ⟨v1, rfl, hv1, hb1⟩; have b1 := b0'.below hb1 hg3; have hl1 := b1.lt; obtain ⟨y0, y1, _, _⟩ := cells2 b1.one)
    | (go_at_call 115; with_reducible refine (clone_nm hv1 (by omega)).mono ?_; rintro e w2 ⟨v2, rfl, hv2, hb2⟩; have b2 := b1.below hb2 (by omega); have hl2 := b2.lt; obtain ⟨z0, z1, _, _⟩ := cells2 b2.one)
    | (go_at_call 101; with_reducible refine (nz_openb (integer_nm hv2)).mono ?_; rintro e w3 ⟨s3, A3, n3, c3, rfl, hs3, hn3, hb3⟩; have b3 := b2.below hb3 (by omega); have hl3 := b3.lt; obtain ⟨t0, t1, _, _⟩ := cells2 b3.one; obtain ⟨t4, t5, t6, t7⟩ := cells2 b3.two))
  have hgl := Hg.out
  have h3 := bthen (bthen (bthen HB.out.drew hb1 (Nat.le_refl _)) hb2 (Nat.le_refl _)) hb3 (Nat.le_refl _)
  have h4 := (h3.setCell (p := ⟨g + 1, 0, none⟩) (by show w.heap.size ≤ g + 1; omega) (.bool s3)).setCell (p := ⟨g + 1, 1, none⟩) (by show w.heap.size ≤ g + 1; omega) (.slice A3 n3 c3)
  have m3 := hn3.offbox b3.two (noInt_zero _ _ _ _) (gb2 _ (g + 1) 0 1 (.bool s3) (.slice A3 n3 c3))
  clear hgl
  go_wp2
  exact bodyPost_ret (v := .agg #[.bool s3, .slice A3 n3 c3]) (by simp [results, Tryz.results73, go_sem, t4, t5]) rfl ⟨_, rfl, ⟨A3, n3, c3, by rw [hs3.out], m3⟩, h4⟩

end Go.Proofs.YtffipjofefemiaaGreatDoor
