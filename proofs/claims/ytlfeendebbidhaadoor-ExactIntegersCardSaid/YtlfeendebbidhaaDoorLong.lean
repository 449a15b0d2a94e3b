/- The contracts of divLong and divLimbs: quotients and remainders of numbers. For all numbers whose limbs fit into memory, the divisor not 0. -/
import Derived.Test.YtlfeendebbidhaaDoorDigit
import Derived.Test.YtlfeendebbidhaaDoorShelf
namespace Go.Proofs.YtlfeendebbidhaaDoor
open Go.RowKit Kb

/-- The state of a long division: the digits from k on are found. -/
def LongRel (A D nu nq k : Nat) (U Q : List Nat) : Prop :=
  U.length = nu ∧ Lim U ∧ Q.length = nq ∧ Lim Q ∧ val U < D * 65536 ^ k ∧ A = val U + D * (65536 ^ k * val (Q.drop k))
theorem LongRel.start {A D nu nq : Nat} {U : List Nat} (h1 : U.length = nu) (h2 : Lim U) (h3 : val U = A) (h4 : A < D * 65536 ^ nq) : LongRel A D nu nq nq U (List.replicate nq 0) :=
  ⟨h1, h2, List.length_replicate, lim_replicate _, by rw [h3]; exact h4, by rw [h3, List.drop_of_length_le (by rw [List.length_replicate]; exact Nat.le_refl _)]; simp [val]⟩
theorem LongRel.low {A D nu nq i m : Nat} {U Q V : List Nat} (h : LongRel A D nu nq (i + 1) U Q) (hV : V.length = m + 2) (lV : Lim V) (hD : val V = D) (hi : i + (m + 3) ≤ nu) :
    val ((U.drop i).take (m + 3)) < 65536 * val V ∧ val U = val (U.take i) + 65536 ^ i * val ((U.drop i).take (m + 3)) ∧ val (U.drop (i + (m + 3))) = 0 := by
  obtain ⟨h1, h2, h3, h4, h5, h6⟩ := h
  have s1 := val_split (l := U) i (by omega)
  have s2 := val_split (l := U.drop i) (m + 3) (by rw [List.length_drop]; omega)
  rw [List.drop_drop] at s2
  have h7 : 65536 ^ i * val (U.drop i) < 65536 ^ i * (65536 * D) := by
    have e : D * 65536 ^ (i + 1) = 65536 ^ i * (65536 * D) := by rw [Nat.pow_succ, Nat.mul_comm D, Nat.mul_assoc]
    omega
  have h8 : val (U.drop i) < 65536 * D := Nat.lt_of_mul_lt_mul_left h7
  have h9 := val_lt lV
  rw [hV, hD] at h9
  have p : 65536 ^ (m + 3) = 65536 * 65536 ^ (m + 2) := by rw [Nat.pow_succ, Nat.mul_comm]
  have h10 : val (U.drop (i + (m + 3))) = 0 := by
    rcases Nat.eq_zero_or_pos (val (U.drop (i + (m + 3)))) with h | h
    · exact h
    · exfalso
      have : 65536 ^ (m + 3) * 1 ≤ 65536 ^ (m + 3) * val (U.drop (i + (m + 3))) := Nat.mul_le_mul_left _ h
      omega
  rw [h10, Nat.mul_zero, Nat.add_zero] at s2
  rw [hD]
  exact ⟨by omega, by rw [s1, s2], h10⟩
theorem LongRel.top {A D nu nq i m : Nat} {U Q V : List Nat} (h : LongRel A D nu nq (i + 1) U Q) (hV : V.length = m + 2) (lV : Lim V) (hD : val V = D) (hi : i + (m + 3) ≤ nu) (hb : 32768 ≤ nth V (m + 1)) :
    Top ((U.drop i).take (m + 3)) V m (val ((U.drop i).take (m + 3)) / val V) :=
  ⟨by rw [List.length_take, List.length_drop, h.1]; omega, hV, lim_take (lim_drop h.2.1 _) _, lV, hb, (h.low hV lV hD hi).1, rfl⟩
theorem three_parts {U : List Nat} (i k : Nat) : U = U.take i ++ ((U.drop i).take k ++ U.drop (i + k)) := by
  rw [← List.drop_drop, List.take_append_drop, List.take_append_drop]
theorem LongRel.next {A D nu nq i m : Nat} {U Q V Y : List Nat} (h : LongRel A D nu nq (i + 1) U Q) (hV : V.length = m + 2) (lV : Lim V) (hD : val V = D) (hi : i + (m + 3) ≤ nu) (hb : 32768 ≤ nth V (m + 1)) (hq : i < nq)
    (hY : Y.length = m + 3) (lY : Lim Y) (hv : val Y = val ((U.drop i).take (m + 3)) % val V) :
    LongRel A D nu nq i (U.take i ++ (Y ++ U.drop (i + (m + 3)))) (Q.set i (val ((U.drop i).take (m + 3)) / val V)) := by
  have t := h.top hV lV hD hi hb
  have hlow := h.low hV lV hD hi
  obtain ⟨h1, h2, h3, h4, h5, h6⟩ := h
  have hpos := t.v_pos
  have hmod := Nat.mod_lt (val ((U.drop i).take (m + 3))) hpos
  have hdm := Nat.div_add_mod (val ((U.drop i).take (m + 3))) (val V)
  have hL := val_lt (lim_take h2 i)
  rw [List.length_take, Nat.min_eq_left (by omega)] at hL
  have hval : val (U.take i ++ (Y ++ U.drop (i + (m + 3)))) = val (U.take i) + 65536 ^ i * val Y := by
    rw [val_append, val_append, hlow.2.2, List.length_take, Nat.min_eq_left (by omega)]
    simp
  generalize hX : val ((U.drop i).take (m + 3)) = x at *
  refine ⟨?_, ?_, by rw [List.length_set, h3], lim_set h4 t.q_lt, ?_, ?_⟩
  · simp only [List.length_append, List.length_take, List.length_drop]; omega
  · exact lim_append.2 ⟨lim_take h2 _, lim_append.2 ⟨lY, lim_drop h2 _⟩⟩
  · rw [hval, hv, ← hD]
    have e : 65536 ^ i * (x % val V + 1) ≤ 65536 ^ i * val V := Nat.mul_le_mul_left _ hmod
    rw [Nat.mul_add, Nat.mul_one] at e
    rw [Nat.mul_comm (val V)]
    omega
  · rw [h6, hval, hv, hlow.2.1, drop_set_self (by omega)]
    simp only [val]
    have e1 : 65536 ^ i * x = 65536 ^ i * (val V * (x / val V)) + 65536 ^ i * (x % val V) := by rw [← Nat.mul_add, hdm]
    have e2 : D * (65536 ^ i * (x / val V + 65536 * val (Q.drop (i + 1)))) = 65536 ^ i * (val V * (x / val V)) + D * (65536 ^ (i + 1) * val (Q.drop (i + 1))) := by
      rw [hD, Nat.mul_add, Nat.mul_add, Nat.mul_left_comm D, Nat.pow_succ, Nat.mul_assoc]
    rw [e1, e2]
    omega
theorem LongRel.done {A D nu nq : Nat} {U Q : List Nat} (h : LongRel A D nu nq 0 U Q) : val Q = A / D ∧ val U = A % D := by
  obtain ⟨h1, h2, h3, h4, h5, h6⟩ := h
  rw [Nat.pow_zero, Nat.mul_one] at h5
  rw [Nat.pow_zero, Nat.one_mul, List.drop_zero] at h6
  have hD : 0 < D := by omega
  rw [h6]
  constructor
  · rw [Nat.add_mul_div_left _ _ hD, Nat.div_eq_of_lt h5, Nat.zero_add]
  · rw [Nat.add_mul_mod_self_left, Nat.mod_eq_of_lt h5]

theorem bitLen_of {k x : Nat} (h1 : 2 ^ k ≤ x) (h2 : x < 2 ^ (k + 1)) (h3 : x < 2 ^ 64) : Lib.bitLen x = k + 1 := by
  rw [Lib.bitLen_shift k x h1 h3]
  have e : x / 2 ^ k = 1 := by
    rw [Nat.div_eq_iff (Nat.pow_pos (by decide))]
    rw [Nat.pow_succ] at h2
    omega
  rw [e]
  rfl
/-- The leading zeros of a limb that is not 0. -/
theorem zeros_of {x : Nat} (h0 : x ≠ 0) (hx : x < 65536) : ∃ s : Nat, s < 16 ∧ (16 - (Lib.bitLen x : Int)) = (s : Int) ∧ 32768 ≤ 2 ^ s * x ∧ 2 ^ s * (x + 1) ≤ 65536 := by
  have h1 := Nat.log2_self_le h0
  have h2 := Nat.lt_log2_self (n := x)
  generalize Nat.log2 x = k at *
  have hk : k < 16 := by
    rcases Nat.lt_or_ge k 16 with h | h
    · exact h
    · exfalso
      have : (2 : Nat) ^ 16 ≤ 2 ^ k := Nat.pow_le_pow_right (by decide) h
      omega
  refine ⟨15 - k, by omega, ?_, ?_, ?_⟩
  · rw [bitLen_of h1 h2 (by omega)]; omega
  · have e : 2 ^ (15 - k) * 2 ^ k = 32768 := by rw [← Nat.pow_add, show 15 - k + k = 15 by omega]
    have := Nat.mul_le_mul_left (2 ^ (15 - k)) h1
    rw [e] at this
    exact this
  · have e : 2 ^ (15 - k) * 2 ^ (k + 1) = 65536 := by rw [← Nat.pow_add, show 15 - k + (k + 1) = 16 by omega]
    have := Nat.mul_le_mul_left (2 ^ (15 - k)) h2
    rw [e] at this
    exact this

/-- The divisor, shifted up: no limb more, a great top limb. -/
theorem shifted_top {b s m : Nat} {o : List Nat} (hb : (dig b).length = m + 2) (hol : o.length = m + 3) (lo : Lim o) (hv : val o = 2 ^ s * b) (h1 : 32768 ≤ 2 ^ s * nth (dig b) (m + 1)) (h2 : 2 ^ s * (nth (dig b) (m + 1) + 1) ≤ 65536) :
    (o.take (m + 2)).length = m + 2 ∧ val (o.take (m + 2)) = 2 ^ s * b ∧ 32768 ≤ nth (o.take (m + 2)) (m + 1) := by
  have hl : (o.take (m + 2)).length = m + 2 := by rw [List.length_take]; omega
  have e1 : b = val ((dig b).take (m + 1)) + 65536 ^ (m + 1) * nth (dig b) (m + 1) := by
    rw [← val_take_succ', List.take_of_length_le (by omega), val_dig]
  have e2 := val_lt (lim_take (lim_dig b) (m + 1))
  rw [List.length_take, Nat.min_eq_left (by omega)] at e2
  have hb1 : b < 65536 ^ (m + 1) * (nth (dig b) (m + 1) + 1) := by rw [Nat.mul_add]; omega
  have hb2 : 2 ^ s * b < 65536 ^ (m + 2) := by
    have h3 : 2 ^ s * b < 2 ^ s * (65536 ^ (m + 1) * (nth (dig b) (m + 1) + 1)) := Nat.mul_lt_mul_of_pos_left hb1 (Nat.pow_pos (by decide))
    have h4 : 2 ^ s * (65536 ^ (m + 1) * (nth (dig b) (m + 1) + 1)) = 65536 ^ (m + 1) * (2 ^ s * (nth (dig b) (m + 1) + 1)) := Nat.mul_left_comm _ _ _
    have h5 := Nat.mul_le_mul_left (65536 ^ (m + 1)) h2
    have h6 : 65536 ^ (m + 2) = 65536 ^ (m + 1) * 65536 := Nat.pow_succ ..
    omega
  have e3 := val_take_succ' o (m + 2)
  rw [List.take_of_length_le (by omega), hv] at e3
  have e4 : val (o.take (m + 2)) = 2 ^ s * b := by
    rcases Nat.eq_zero_or_pos (nth o (m + 2)) with h | h
    · rw [h, Nat.mul_zero] at e3; omega
    · have : 65536 ^ (m + 2) * 1 ≤ 65536 ^ (m + 2) * nth o (m + 2) := Nat.mul_le_mul_left _ h
      omega
  refine ⟨hl, e4, ?_⟩
  have e5 := val_take_succ' (o.take (m + 2)) (m + 1)
  rw [List.take_of_length_le (by omega), e4] at e5
  have e6 := val_lt (lim_take (lim_take lo (m + 2)) (m + 1))
  rw [List.length_take, Nat.min_eq_left (by omega)] at e6
  have h7 : 65536 ^ (m + 1) * 32768 ≤ 2 ^ s * b := by
    have h3 : 2 ^ s * (65536 ^ (m + 1) * nth (dig b) (m + 1)) ≤ 2 ^ s * b := Nat.mul_le_mul_left _ (by omega)
    have h4 : 2 ^ s * (65536 ^ (m + 1) * nth (dig b) (m + 1)) = 65536 ^ (m + 1) * (2 ^ s * nth (dig b) (m + 1)) := Nat.mul_left_comm _ _ _
    have h5 := Nat.mul_le_mul_left (65536 ^ (m + 1)) h1
    omega
  rcases Nat.lt_or_ge (nth (o.take (m + 2)) (m + 1)) 32768 with h | h
  · exfalso
    have h8 : 65536 ^ (m + 1) * (nth (o.take (m + 2)) (m + 1) + 1) ≤ 65536 ^ (m + 1) * 32768 := Nat.mul_le_mul_left _ h
    rw [Nat.mul_add] at h8
    omega
  · exact h
theorem shifted_lt {a b s m : Nat} (hb : (dig b).length = m + 2) (hs : s < 16) (h1 : 32768 ≤ 2 ^ s * nth (dig b) (m + 1)) (hl : m + 2 ≤ (dig a).length) :
    2 ^ s * a < 2 ^ s * b * 65536 ^ ((dig a).length - (m + 2) + 1) := by
  have e0 := val_lt (lim_dig a)
  rw [val_dig] at e0
  have e1 : b = val ((dig b).take (m + 1)) + 65536 ^ (m + 1) * nth (dig b) (m + 1) := by
    rw [← val_take_succ', List.take_of_length_le (by omega), val_dig]
  have h7 : 65536 ^ (m + 1) * 32768 ≤ 2 ^ s * b := by
    have h3 : 2 ^ s * (65536 ^ (m + 1) * nth (dig b) (m + 1)) ≤ 2 ^ s * b := Nat.mul_le_mul_left _ (by omega)
    have h4 : 2 ^ s * (65536 ^ (m + 1) * nth (dig b) (m + 1)) = 65536 ^ (m + 1) * (2 ^ s * nth (dig b) (m + 1)) := Nat.mul_left_comm _ _ _
    have h5 := Nat.mul_le_mul_left (65536 ^ (m + 1)) h1
    omega
  have h8 := Nat.mul_le_mul_right (65536 ^ ((dig a).length - (m + 2) + 1)) h7
  have e2 : 65536 ^ (m + 1) * 32768 * 65536 ^ ((dig a).length - (m + 2) + 1) = 32768 * 65536 ^ (dig a).length := by
    rw [Nat.mul_comm (65536 ^ (m + 1)), Nat.mul_assoc, ← Nat.pow_add, show m + 1 + ((dig a).length - (m + 2) + 1) = (dig a).length by omega]
  have h9 : (2 : Nat) ^ s ≤ 2 ^ 15 := Nat.pow_le_pow_right (by decide) (by omega)
  have h10 : 2 ^ s * a < 32768 * 65536 ^ (dig a).length := by
    have p1 : 2 ^ s * a ≤ 32768 * a := Nat.mul_le_mul_right _ h9
    have p2 : 32768 * a < 32768 * 65536 ^ (dig a).length := Nat.mul_lt_mul_of_pos_left e0 (by decide)
    omega
  omega

theorem lz_any (x s : Nat) (w : World) (hx : x < 65536) (hs : (16 - (Lib.bitLen x : Int)) = (s : Int)) :
    Calls Tryd.prog 85 #[.int .u16 (x : Int)] w fun e w' => e = .returned (.int .i64 (s : Int)) ∧ w = w' := by
  refine (Tryd.bits_LeadingZeros16 (x : Int) w (by omega) (by omega)).mono ?_
  rintro e w' ⟨he, hw⟩
  rw [Int.toNat_natCast, hs] at he
  exact ⟨he, hw.symm⟩
theorem shiftedUp_n (A : Option Addr) (c s n : Nat) (xs : List Nat) (w : World) (hs : Sl w .u16 A xs) (hx : Lim xs) (hs16 : s < 16) (hn : xs.length = n) (hl : n ≤ 1000000000) :
    Calls Tryd.prog 86 #[.slice A n c, .int .i64 s] w fun e w' => ∃ o, e = .returned (.slice (some ⟨w.heap.size, 0, none⟩) (n + 1) (n + 1)) ∧ o.length = n + 1 ∧ Lim o ∧ val o = 2 ^ s * val xs ∧ Row w' w.heap.size 71 .u16 o ∧ Below w.heap.size w w' := by
  subst hn
  exact shiftedUp_any A c s xs w hs hx hs16 hl
theorem shiftDown_n (g c s n : Nat) (xs : List Nat) (w : World) (hp : Pre w g 71 .u16 xs) (hx : Lim xs) (hs16 : s < 16) (hn : xs.length = n) (hl : n ≤ 1000000000) :
    Calls Tryd.prog 88 #[.slice (some ⟨g, 0, none⟩) n c, .int .i64 s] w fun e w' => e = .returned (.tuple #[]) ∧ ∃ o, o.length = n ∧ Lim o ∧ val o = val xs / 2 ^ s ∧ Pre w' g 71 .u16 o ∧ w.grownBy w' (some g) := by
  subst hn
  refine (shiftDown_any g c s xs w hp hx hs16 hl).mono ?_
  rintro e w' ⟨he, o, hd, hp', hg⟩
  exact ⟨he, o, hd.1, hd.2.1, down_val hs16 hd.1 hd.2.2.2, hp', hg⟩

theorem digit_n (g gv j m n n1 cu cv q : Nat) (L X R V : List Nat) (w : World) (hp : Pre w g 71 .u16 (L ++ (X ++ R))) (hv : Pre w gv 71 .u16 V) (hne : gv ≠ g)
    (hn : n = m + 2) (hn1 : n1 = m + 3) (hL : L.length = j) (t : Top X V m q) (hbig : j + m ≤ 900000000) (hcu : m + 3 ≤ cu) (hcu2 : cu ≤ 2000000000) :
    Calls Tryd.prog 87 #[.slice (some ⟨g, j, none⟩) n1 cu, .slice (some ⟨gv, 0, none⟩) n cv] w fun e w' =>
      e = .returned (.int .u16 (q : Nat)) ∧ ∃ (Y : List Nat), Y.length = m + 3 ∧ Lim Y ∧ val Y = val X % val V ∧ Pre w' g 71 .u16 (L ++ (Y ++ R)) ∧ w.grownBy w' (some g) := by
  subst hn
  subst hn1
  exact digit_any g gv j m cu cv q L X R V w hp hv hne hL t hbig hcu hcu2

set_option maxRecDepth 100000 in
set_option maxHeartbeats 4000000 in
theorem divLong_any (A B : Option Addr) (c d a b m n la : Nat) (w : World) (hs : Sl w .u16 A (dig a)) (hs2 : Sl w .u16 B (dig b)) (hb : (dig b).length = m + 2) (hn : n = m + 2) (hla : (dig a).length = la) (hl : n ≤ la) (hbig : la ≤ 400000000) :
    Calls Tryd.prog 72 #[.slice A la c, .slice B n d] w fun e w' => ∃ v u, e = .returned (.tuple #[v, u]) ∧ Nm w' v (a / b) ∧ Nm w' u (a % b) ∧ Below w.heap.size w w' := by
  have hb0 : b ≠ 0 := by intro e; subst e; rw [dig_zero] at hb; simp at hb
  have htop := dig_last hb0
  rw [hb, show m + 2 - 1 = m + 1 by omega] at htop
  have hlim := lim_nth (lim_dig b) (m + 1)
  obtain ⟨s, hs16, hsz, hn1, hn2⟩ := zeros_of htop hlim
  obtain ⟨bd, rfl, hb1, hcell⟩ := hs2 (m + 1) (by omega)
  rw [show m + 1 = n - 1 by omega] at hcell htop hlim hsz hn1 hn2
  obtain ⟨i0, hi, hz0, hz1, hz2⟩ := info_parts Tryd.info16
  have hmk := fun w => run_make_rowOf (P := Tryd.prog) 22 71 i0 .u16 ((la : Int) - (n : Int) + 1) (la - n + 1) w Tryd.underlying22 hi hz0 hz1 (by omega) (by omega) (by omega)
  have hn2' : 2 ≤ n := by omega
  have Hb := hid hb
  have HN := hid hn
  have Hla := hid hla
  have Hn := hid (And.intro hsz (And.intro hn1 hn2))
  clear hi hz0 hz1 hz2 hb hla htop hsz hn1 hn2 hn
  go_enter Tryd.func72, Tryd.ntmps72
  go_wp2_with fail
  refine (lz_any _ s _ hlim Hn.out.1).mono ?_
  rintro e w' ⟨rfl, rfl⟩
  go_wp2_with fail
  refine (shiftedUp_n (some bd) d s n (dig b) _ hs2 (lim_dig b) hs16 (Hb.out.trans HN.out.symm) (by omega)).mono ?_
  rintro e w1 ⟨o1, rfl, ho1, lo1, hv1, hrow1, hbel1⟩
  have V := shifted_top Hb.out (by rw [ho1, HN.out]) lo1 (by rw [hv1, val_dig]) (by have := Hn.out.2.1; rwa [show n - 1 = m + 1 by have := HN.out; omega] at this) (by have := Hn.out.2.2; rwa [show n - 1 = m + 1 by have := HN.out; omega] at this)
  have HV := hid V
  clear hcell V hlim
  have Ho1 := hid (And.intro ho1 hv1)
  clear ho1 hv1
  go_wp2_with fail
  refine (shiftedUp_n A c s la (dig a) _ (hs.below hbel1) (lim_dig a) hs16 Hla.out (by omega)).mono ?_
  rintro e w2 ⟨o2, rfl, ho2, lo2, hv2, hrow2, hbel2⟩
  have Ho2 := hid (And.intro ho2 hv2)
  clear ho2 hv2
  have hsz1 := hbel1.size
  have hsz2 := hbel2.size
  have hl1 := hrow1.lt
  have hl2 := hrow2.lt
  have Hst := hid (LongRel.start (nq := la - n + 1) (U := o2) Ho2.out.1 lo2 (by rw [Ho2.out.2, val_dig]) (show 2 ^ s * a < 2 ^ s * b * 65536 ^ (la - n + 1) from by
    have h := shifted_lt (a := a) Hb.out hs16 (by have := Hn.out.2.1; rwa [show n - 1 = m + 1 by have := HN.out; omega] at this) (by rw [Hla.out]; have := HN.out; omega)
    rwa [Hla.out, show m + 2 = n from HN.out.symm] at h))
  have hbel3 : Below w.heap.size w (w2.alloc (.cells (rowOf .u16 (List.replicate (la - n + 1) 0)) 71)) := (hbel1.trans (hbel2.mono hsz1)).alloc (by omega) _
  have hpu : Pre (w2.alloc (.cells (rowOf .u16 (List.replicate (la - n + 1) 0)) 71)) w1.heap.size 71 .u16 o2 := hrow2.pre.below ((Below.refl _ _).alloc (Nat.le_refl _) _) hl2
  have hpv : Pre (w2.alloc (.cells (rowOf .u16 (List.replicate (la - n + 1) 0)) 71)) w.heap.size 71 .u16 (o1.take (m + 2)) := ((hrow1.pre.take (m + 2)).below hbel2 hl1).below ((Below.refl _ _).alloc (Nat.le_refl _) _) (by omega)
  have Hd0 := hid (show w.heap.size ≠ w1.heap.size ∧ w1.heap.size ≠ w2.heap.size ∧ w.heap.size ≠ w2.heap.size from ⟨by omega, by omega, by omega⟩)
  have lV := lim_take lo1 (m + 2)
  go_wp2
  go_loopw [9] (fun jv wr => ∃ (k : Nat) (U Q : List Nat), k ≤ la - n + 1 ∧ jv = .int .i64 ((k : Int) - 1) ∧ LongRel (2 ^ s * a) (2 ^ s * b) (la + 1) (la - n + 1) k U Q ∧ Pre wr w1.heap.size 71 .u16 U ∧ Pre wr w.heap.size 71 .u16 (o1.take (m + 2)) ∧ Row wr w2.heap.size 71 .u16 Q ∧ Below w.heap.size w wr) (fun jv _ => (intOf jv + 1).toNat)
  case atStart => exact ⟨la - n + 1, o2, _, Nat.le_refl _, by go_num, Hst.out, hpu, hpv, Row.new _ _ _ _, hbel3⟩
  case round =>
    obtain ⟨k, U, Q, hk, rfl, hr, hu, hv, hq, hbel⟩ := hrel
    clear hpu hpv hbel3 hmk hrow1 hrow2 Hst
    by_cases h0 : 0 < k
    · obtain ⟨i, rfl⟩ : ∃ i, k = i + 1 := ⟨k - 1, by omega⟩
      rw [show ((i + 1 : Nat) : Int) - 1 = (i : Int) by omega]
      have Hr := hid hr
      have htp := hr.top HV.out.1 lV HV.out.2.1 (by have := HN.out; omega) HV.out.2.2
      obtain ⟨qd, hqd⟩ : ∃ qd, qd = val ((U.drop i).take (m + 3)) / val (o1.take (m + 2)) := ⟨_, rfl⟩
      rw [← hqd] at htp
      have hql := htp.q_lt
      have Hqd := hid hqd
      have hparts := three_parts (U := U) i (m + 3)
      have hu2 := hu
      rw [hparts] at hu2
      have Hul := hid hr.1
      have Hql := hid hr.2.2.1
      clear hr hparts hqd
      go_wp2_with fail
      refine (digit_n w1.heap.size w.heap.size i m n (i + n + 1 - i) (la + 1 - i) (n + 1) qd (U.take i) ((U.drop i).take (m + 3)) (U.drop (i + (m + 3))) (o1.take (m + 2)) wr hu2 hv Hd0.out.1 HN.out (by have := HN.out; omega) (by rw [List.length_take, Hul.out]; omega) htp (by have := HN.out; omega) (by have := HN.out; omega) (by omega)).mono ?_
      rintro e w4 ⟨rfl, Y, hYl, lY, hYv, hpY, hgr⟩
      have Hn2 := hid (Hr.out.next HV.out.1 lV HV.out.2.1 (by have := HN.out; omega) HV.out.2.2 (by omega) hYl lY hYv)
      clear hYl hYv
      have hq4 := hq.grown hgr (by simpa using Hd0.out.2.1.symm)
      have hv4 := hv.grown hgr (by simpa using Hd0.out.1)
      have hb4 := hbel.grown hgr (Nat.le_trans hsz1 (Nat.le_trans hsz2 (Nat.le_of_lt hq.lt) |> fun h => by omega)) (fun k hk => by injection hk with hk; omega)
      have hc4 := hq4.cell (i := i) (by have := Hql.out; omega)
      have hf4 := hq4.frozen i
      have hg5 := gb_set (World.grownBy.refl w4 (some w2.heap.size)) i (.int .u16 (qd : Int))
      clear hu hu2 hq hv hbel hgr htp
      go_wp2
      go_roundw
      case rel =>
        refine ⟨i, _, _, by omega, rfl, ?_, hpY.grown hg5 (by simpa using Hd0.out.2.1), hv4.grown hg5 (by simpa using Hd0.out.2.2), hq4.set i qd, hb4.setCell (p := ⟨w2.heap.size, i, none⟩) (by show w.heap.size ≤ w2.heap.size; omega) _⟩
        have h := Hn2.out
        rwa [← Hqd.out] at h
      case measure => simp [intOf]
    · obtain rfl : k = 0 := by omega
      have Hdn := hid hr.done
      have Hul := hid hr.1
      have Hql := hid hr.2.2.1
      have lU := hr.2.1
      have lQ := hr.2.2.2.1
      have hUlt := hr.2.2.2.2.1
      rw [Nat.pow_zero, Nat.mul_one] at hUlt
      have HUv := hid (show val (U.take n) = val U from by
        have h1 := val_lt lV
        rw [HV.out.1, HV.out.2.1] at h1
        have h2 := val_split (l := U) n (by rw [Hul.out]; omega)
        have h3 := HN.out
        subst h3
        rcases Nat.eq_zero_or_pos (val (U.drop (m + 2))) with h | h
        · rw [h, Nat.mul_zero] at h2; omega
        · have : 65536 ^ (m + 2) * 1 ≤ 65536 ^ (m + 2) * val (U.drop (m + 2)) := Nat.mul_le_mul_left _ h
          omega)
      clear hr hUlt
      go_wp2_with fail
      refine (shiftDown_n w1.heap.size (la + 1) s n (U.take n) wr (hu.take n) (lim_take lU n) hs16 (by rw [List.length_take, Hul.out]; omega) (by omega)).mono ?_
      rintro e w4 ⟨rfl, O, hOl, lO, hOv, hpO, hgr⟩
      have HOl := hid hOl
      have Hres := hid (show val O = a % b ∧ val Q = a / b from by
        rw [hOv, HUv.out, Hdn.out.1, Hdn.out.2, Nat.mul_mod_mul_left, Nat.mul_div_right _ (Nat.pow_pos (by decide)), Nat.mul_div_mul_left _ _ (Nat.pow_pos (by decide))]
        exact ⟨rfl, rfl⟩)
      clear hOl hOv
      have hq4 := hq.grown hgr (by simpa using Hd0.out.2.1.symm)
      have hb4 := hbel.grown hgr (by have := hq.lt; omega) (fun k hk => by injection hk with hk; omega)
      go_wp2_with fail
      refine (trim_nm _ _ _ Q _ hq4.sl lQ Hql.out (Nat.le_refl _) (by unfold maxLen; omega)).mono ?_
      rintro e w5 ⟨v, rfl, hnv, rfl⟩
      go_wp2_with fail
      refine (trim_nm _ _ _ O _ hpO.sl lO HOl.out (by omega) (by unfold maxLen; omega)).mono ?_
      rintro e w5 ⟨u, rfl, hnu, rfl⟩
      go_wp2
      go_ret2
      rw [Hres.out.1] at hnu
      rw [Hres.out.2] at hnv
      exact ⟨v, u, rfl, hnv, hnu, hb4⟩

end Go.Proofs.YtlfeendebbidhaaDoor
