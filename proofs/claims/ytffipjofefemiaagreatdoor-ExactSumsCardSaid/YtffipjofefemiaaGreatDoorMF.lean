/- Fractions as numbers; the contract of commonDivisor in general. -/
import Derived.Test.YtffipjofefemiaaGreatDoorME
import Derived.Test.YtffipjofefemiaaGreatDoorMC
import Derived.Test.YtffipjofefemiaaGreatDoorMD
import Derived.Shelf.Spec.BitsCarry
import Derived.Deep.RegionWith
namespace Go.Proofs.YtffipjofefemiaaGreatDoor
open Go.RowKit Kb

/-- The numerator over a positive denominator; a denominator 0 counts as 1. -/
def pn (N D : Int) : Int := if D < 0 then -N else N
def pd (D : Int) : Nat := if D = 0 then 1 else D.natAbs
/-- What a pair of integers means. -/
def rv (N D : Int) : Rat := mkRat (pn N D) (pd D)
theorem pd_ne (D : Int) : pd D ≠ 0 := by unfold pd; split <;> omega
theorem rv_self (r : Rat) : rv r.num r.den = r := by
  have h := r.den_nz
  unfold rv pn pd
  rw [if_neg (by omega), if_neg (by omega), Int.natAbs_natCast, Rat.mkRat_self]
theorem pd_pos {D : Int} (h : 0 < D) : pd D = D.toNat := by unfold pd; rw [if_neg (by omega)]; omega
/-- The size of a fraction. -/
structure QL (k : Nat) (r : Rat) : Prop where
  num : Le k r.num
  den : Le k (r.den : Int)
theorem QL.mono {k l : Nat} {r : Rat} (h : QL k r) (hk : k ≤ l) : QL l r := ⟨h.num.mono hk, h.den.mono hk⟩
theorem toZ_div {s : Bool} {a g : Nat} (h : g ∣ a) : toZ s (a / g) = toZ s a / (g : Int) := by
  unfold toZ
  cases s
  · rw [if_neg (by decide), if_neg (by decide), Int.natCast_ediv]
  · rw [if_pos rfl, if_pos rfl, Int.natCast_ediv, Int.neg_ediv_of_dvd (Int.natCast_dvd_natCast.2 h)]
theorem mk_num (s : Bool) (a b : Nat) (h0 : b ≠ 0) : (mkRat (toZ s a) b).num = toZ s (a / Nat.gcd a b) := by
  rw [Rat.num_mkRat, if_neg h0, natAbs_toZ, toZ_div (Nat.gcd_dvd_left a b), Nat.gcd_comm b a]
theorem mk_den (s : Bool) (a b : Nat) (h0 : b ≠ 0) : (mkRat (toZ s a) b).den = b / Nat.gcd a b := by
  rw [Rat.den_mkRat, if_neg h0, natAbs_toZ, Nat.gcd_comm b a]
theorem toZ_natAbs (z : Int) : toZ (decide (z < 0)) z.natAbs = z := toZ_of z
theorem mk_ql {k : Nat} {a : Int} {b : Nat} (h0 : b ≠ 0) (ha : Le k a) (hb : Le k (b : Int)) : QL k (mkRat a b) := by
  have e1 := mk_num (decide (a < 0)) a.natAbs b h0
  have e2 := mk_den (decide (a < 0)) a.natAbs b h0
  rw [toZ_natAbs] at e1 e2
  unfold Le at ha hb
  refine ⟨?_, ?_⟩
  · unfold Le; rw [e1, natAbs_toZ]; exact Nat.lt_of_le_of_lt (Nat.div_le_self _ _) ha
  · unfold Le; rw [e2]; exact Nat.lt_of_le_of_lt (Nat.div_le_self _ _) hb
theorem rv_parts (p q : Bool) {a b : Nat} (h0 : b ≠ 0) : rv (toZ p a) (toZ q b) = mkRat (toZ (p != q) a) b := by
  unfold rv
  have h1 : pd (toZ q b) = b := by
    unfold pd; rw [if_neg (by intro e; have := natAbs_toZ q b; rw [e] at this; simp at this; omega), natAbs_toZ]
  have h2 : pn (toZ p a) (toZ q b) = toZ (p != q) a := by
    unfold pn toZ
    cases p <;> cases q <;> simp <;> omega
  rw [h1, h2]
theorem rv_num (p q : Bool) {a b : Nat} (h0 : b ≠ 0) : toZ (p != q) (a / Nat.gcd a b) = (rv (toZ p a) (toZ q b)).num := by
  rw [rv_parts p q h0, mk_num _ _ _ h0]
theorem rv_den (p q : Bool) {a b : Nat} (h0 : b ≠ 0) : b / Nat.gcd a b = (rv (toZ p a) (toZ q b)).den := by
  rw [rv_parts p q h0, mk_den _ _ _ h0]

/-- A pair with a positive denominator, of size k, with the value r. -/
structure Pq (k : Nat) (r : Rat) (a : Int) (b : Nat) : Prop where
  nz : b ≠ 0
  eq : mkRat a b = r
  la : Le k a
  lb : Le k (b : Int)
section
variable {k l : Nat} {x y : Rat} {a c : Int} {b d : Nat}
theorem Pq.ql (h : Pq k x a b) : QL k x := by
  obtain ⟨h0, rfl, h2, h3⟩ := h
  exact mk_ql h0 h2 h3
theorem Pq.mono (h : Pq k x a b) (hk : k ≤ l) : Pq l x a b := ⟨h.nz, h.eq, h.la.mono hk, h.lb.mono hk⟩
theorem Le.nat {k : Nat} {b : Nat} (h : Le k (b : Int)) : b < 65536 ^ k := h
theorem Le.mulN {k l b d : Nat} (h : Le k (b : Int)) (h' : Le l (d : Int)) : Le (k + l) ((b * d : Nat) : Int) := by
  rw [Int.natCast_mul]; exact Le.mul h h'
theorem Pq.add (h : Pq k x a b) (g : Pq l y c d) : Pq (k + l + 1) (x + y) (a * d + c * b) (b * d) := by
  obtain ⟨h0, rfl, h2, h3⟩ := h
  obtain ⟨g0, rfl, g2, g3⟩ := g
  refine ⟨Nat.mul_ne_zero h0 g0, (Rat.mkRat_add_mkRat _ _ h0 g0).symm, ?_, (Le.mulN h3 g3).mono (by omega)⟩
  have := (Le.mul g2 h3).mono (show l + k ≤ k + l by omega)
  exact (Le.mul h2 g3).add this
theorem Pq.add_same (h : Pq k x a b) (g : Pq l y c b) : Pq (k + l + 1) (x + y) (a + c) b := by
  obtain ⟨h0, rfl, h2, h3⟩ := h
  obtain ⟨g0, rfl, g2, g3⟩ := g
  refine ⟨h0, ?_, (h2.mono (by omega)).add (g2.mono (by omega)), h3.mono (by omega)⟩
  rw [Rat.mkRat_add_mkRat _ _ h0 h0, ← Int.add_mul, Rat.mkRat_mul_right h0]
theorem Pq.neg (h : Pq k x a b) : Pq k (-x) (-a) b := by
  obtain ⟨h0, rfl, h2, h3⟩ := h
  exact ⟨h0, (Rat.neg_mkRat _ _).symm, h2.neg, h3⟩
theorem Pq.sub (h : Pq k x a b) (g : Pq l y c d) : Pq (k + l + 1) (x - y) (a * d - c * b) (b * d) := by
  have := h.add g.neg
  rwa [← Rat.sub_eq_add_neg, Int.neg_mul, ← Int.sub_eq_add_neg] at this
theorem Pq.sub_same (h : Pq k x a b) (g : Pq l y c b) : Pq (k + l + 1) (x - y) (a - c) b := by
  have := h.add_same g.neg
  rwa [← Rat.sub_eq_add_neg, ← Int.sub_eq_add_neg] at this
theorem Pq.mul (h : Pq k x a b) (g : Pq l y c d) : Pq (k + l) (x * y) (a * c) (b * d) := by
  obtain ⟨h0, rfl, h2, h3⟩ := h
  obtain ⟨g0, rfl, g2, g3⟩ := g
  exact ⟨Nat.mul_ne_zero h0 g0, (Rat.mkRat_mul_mkRat _ _ _ _).symm, Le.mul h2 g2, Le.mulN h3 g3⟩
theorem Pq.zero_iff (h : Pq k x a b) : a = 0 ↔ x = 0 := by
  obtain ⟨h0, rfl, h2, h3⟩ := h
  exact (Rat.mkRat_eq_zero h0).symm
theorem Pq.div (h : Pq k x a b) (g : Pq l y c d) (hc : c ≠ 0) : rv (a * d) (b * c) = x / y ∧ Le (k + l) (a * d) ∧ Le (k + l) (b * c) := by
  obtain ⟨h0, rfl, h2, h3⟩ := h
  obtain ⟨g0, rfl, g2, g3⟩ := g
  refine ⟨?_, Le.mul h2 g3, Le.mul h3 g2⟩
  rw [Rat.div_def, ← Rat.divInt_ofNat c d, Rat.inv_divInt, ← Rat.divInt_ofNat a b, Rat.divInt_mul_divInt]
  unfold rv pn pd
  have h1 : (b : Int) * c ≠ 0 := Int.mul_ne_zero (by omega) hc
  rw [if_neg h1]
  by_cases hn : (b : Int) * c < 0
  · rw [if_pos hn, ← Rat.divInt_ofNat, show (((b : Int) * c).natAbs : Int) = -((b : Int) * c) by omega, Rat.neg_divInt_neg]
  · rw [if_neg hn, ← Rat.divInt_ofNat, show (((b : Int) * c).natAbs : Int) = (b : Int) * c by omega]
/-- The order of fractions is that of the cross products. -/
theorem mk_le_mk (h0 : b ≠ 0) (g0 : d ≠ 0) : mkRat a b ≤ mkRat c d ↔ a * d ≤ c * b := by
  rw [Rat.le_iff_sub_nonneg, ← Rat.divInt_ofNat, ← Rat.divInt_ofNat, Rat.divInt_sub_divInt _ _ (by omega) (by omega), Rat.divInt_nonneg_iff_of_pos_right (Int.mul_pos (by omega) (by omega))]
  omega
theorem Pq.le_iff (h : Pq k x a b) (g : Pq l y c d) : x ≤ y ↔ a * d ≤ c * b := by
  obtain ⟨h0, rfl, h2, h3⟩ := h
  obtain ⟨g0, rfl, g2, g3⟩ := g
  exact mk_le_mk h0 g0
end
/-- The sign of the difference of two fractions. -/
def cmpQ (x y : Rat) : Int := if x < y then -1 else if x = y then 0 else 1
theorem cmpQ_of {k l : Nat} {x y : Rat} {a c : Int} {b d : Nat} (h : Pq k x a b) (g : Pq l y c d) : cmpZ (a * d) (c * b) = cmpQ x y := by
  have h1 := h.le_iff g
  have h2 := g.le_iff h
  unfold cmpQ
  by_cases h3 : x < y
  · have h4 : ¬ c * b ≤ a * d := fun e => absurd (h2.2 e) (Rat.not_le.2 h3)
    rw [if_pos h3]
    unfold cmpZ
    exact Int.sign_eq_neg_one_of_neg (by omega)
  · rw [if_neg h3]
    have h5 : c * b ≤ a * d := h2.1 (Rat.not_lt.1 h3)
    unfold cmpZ
    by_cases h6 : x = y
    · rw [if_pos h6]
      have h7 : a * d ≤ c * b := h1.1 (by rw [h6]; exact Rat.le_refl)
      rw [show a * d - c * b = 0 by omega]; rfl
    · rw [if_neg h6]
      have h7 : ¬ a * d ≤ c * b := fun e => h6 (Rat.le_antisymm (h1.2 e) (Rat.not_lt.1 h3))
      exact Int.sign_eq_one_of_pos (by omega)
theorem cmpQ_self (x : Rat) : cmpQ x x = 0 := by unfold cmpQ; rw [if_neg Rat.lt_irrefl, if_pos rfl]
theorem cmpQ_le {x y : Rat} (h : x ≤ y) : ¬ 0 < cmpQ x y := by
  unfold cmpQ
  split
  · decide
  · split
    · decide
    · rename_i h1 h2
      exact absurd (Rat.le_antisymm h (Rat.not_lt.1 h1)) h2
theorem cmpQ_gt {x y : Rat} (h : y < x) : 0 < cmpQ x y := by
  unfold cmpQ
  rw [if_neg (fun e => Rat.lt_irrefl (Std.lt_trans h e)), if_neg (fun e => Rat.ne_of_lt h e.symm)]
  decide
/-- An integer as a fraction. -/
theorem whole_pq {k : Nat} {z : Int} (h : Le k z) (hk : 0 < k) : Pq k (z : Rat) z 1 := by
  refine ⟨by decide, ?_, h, Le.one hk⟩
  have := Rat.mkRat_self (z : Rat)
  rwa [Rat.num_intCast, Rat.den_intCast] at this
theorem whole_ql {k : Nat} {z : Int} (h : Le k z) (hk : 0 < k) : QL k (z : Rat) := ⟨h, Le.one hk⟩
/-- The floor of a fraction, by any pair. -/
theorem floor_le {k : Nat} {x : Rat} {a : Int} {b : Nat} (h : Pq k x a b) : ((a / (b : Int) : Int) : Rat) ≤ x := by
  obtain ⟨h0, rfl, h2, h3⟩ := h
  have e := Rat.mkRat_self ((a / (b : Int) : Int) : Rat)
  rw [Rat.num_intCast, Rat.den_intCast] at e
  rw [← e, mk_le_mk (by decide) h0]
  have := Int.ediv_mul_le a (show (b : Int) ≠ 0 by omega)
  omega
theorem lt_floor {k : Nat} {x : Rat} {a : Int} {b : Nat} (h : Pq k x a b) : x < ((a / (b : Int) : Int) : Rat) + 1 := by
  obtain ⟨h0, rfl, h2, h3⟩ := h
  have e := Rat.mkRat_self ((a / (b : Int) + 1 : Int) : Rat)
  rw [Rat.num_intCast, Rat.den_intCast] at e
  have e1 : ((a / (b : Int) : Int) : Rat) + 1 = ((a / (b : Int) + 1 : Int) : Rat) := by simp
  rw [e1, ← e, ← Rat.not_le, mk_le_mk (by decide) h0]
  have := Int.lt_ediv_add_one_mul_self a (show 0 < (b : Int) by omega)
  omega



end Go.Proofs.YtffipjofefemiaaGreatDoor

namespace Kb

theorem vw_set {l : List Nat} {k v : Nat} (h : k < l.length) : vw (l.set k v) + 18446744073709551616 ^ k * nth l k = vw l + 18446744073709551616 ^ k * v := by
  induction l generalizing k with
  | nil => simp at h
  | cons x l ih =>
    cases k with
    | zero =>
      have e : nth (x :: l) 0 = x := by simp [nth]
      rw [e]
      simp only [List.set_cons_zero, vw]
      omega
    | succ k =>
      have h1 := ih (k := k) (by simpa using h)
      have e : nth (x :: l) (k + 1) = nth l k := by simp [nth]
      rw [e]
      simp only [List.set_cons_succ, vw, Nat.pow_succ]
      rw [Nat.mul_comm (18446744073709551616 ^ k) 18446744073709551616, Nat.mul_assoc, Nat.mul_assoc]
      omega
theorem pow_four (i : Nat) : (65536 : Nat) ^ i = 18446744073709551616 ^ (i / 4) * 65536 ^ (i % 4) := by
  conv => lhs; rw [← Nat.div_add_mod i 4, Nat.pow_add, Nat.pow_mul]
/-- One limb more. -/
theorem pack_step {o l : List Nat} {i : Nat} (hi : i < l.length) (hk : i / 4 < o.length) (hv : vw o = val (l.take i)) (hlow : nth o (i / 4) < 65536 ^ (i % 4)) (hz : ∀ j, i / 4 < j → nth o j = 0) (hL : Lim l) :
    nth o (i / 4) + nth l i * 65536 ^ (i % 4) < 65536 ^ (i % 4 + 1) ∧
    vw (o.set (i / 4) (nth o (i / 4) + nth l i * 65536 ^ (i % 4))) = val (l.take (i + 1)) ∧
    nth (o.set (i / 4) (nth o (i / 4) + nth l i * 65536 ^ (i % 4))) ((i + 1) / 4) < 65536 ^ ((i + 1) % 4) ∧
    ∀ j, (i + 1) / 4 < j → nth (o.set (i / 4) (nth o (i / 4) + nth l i * 65536 ^ (i % 4))) j = 0 := by
  have hx := lim_nth hL i
  have h1 : nth o (i / 4) + nth l i * 65536 ^ (i % 4) < 65536 ^ (i % 4 + 1) := by
    rw [Nat.pow_succ]
    have := Nat.mul_le_mul_right (65536 ^ (i % 4)) (show nth l i ≤ 65535 by omega)
    omega
  refine ⟨h1, ?_, ?_, fun j hj => ?_⟩
  · have h2 := vw_set (v := nth o (i / 4) + nth l i * 65536 ^ (i % 4)) hk
    rw [Nat.mul_add] at h2
    rw [val_take_succ hi, pow_four i, ← hv]
    have e : 18446744073709551616 ^ (i / 4) * 65536 ^ (i % 4) * nth l i = 18446744073709551616 ^ (i / 4) * (nth l i * 65536 ^ (i % 4)) := by
      rw [Nat.mul_assoc, Nat.mul_comm (65536 ^ (i % 4))]
    rw [e]
    omega
  · rw [nth_set hk]
    by_cases h3 : i % 4 = 3
    · have e1 : (i + 1) / 4 = i / 4 + 1 := by omega
      have e2 : (i + 1) % 4 = 0 := by omega
      rw [e1, e2, if_neg (by omega), hz _ (by omega)]
      decide
    · have e1 : (i + 1) / 4 = i / 4 := by omega
      have e2 : (i + 1) % 4 = i % 4 + 1 := by omega
      rw [e1, e2, if_pos rfl]
      exact h1
  · rw [nth_set hk, if_neg (by omega), hz j (by omega)]

end Kb

namespace Go.Proofs.YtffipjofefemiaaGreatDoor
open Go.RowKit Kb

/-- i limbs are packed. -/
def PackRel (xs : List Nat) (i : Nat) (o : List Nat) : Prop :=
  o.length = (xs.length + 3) / 4 ∧ LimW o ∧ vw o = val (xs.take i) ∧ nth o (i / 4) < 65536 ^ (i % 4) ∧ ∀ j, i / 4 < j → nth o j = 0
theorem nth_rep (n j : Nat) : nth (List.replicate n 0) j = 0 := by
  unfold nth
  rw [List.getD_eq_getElem?_getD]
  by_cases h : j < n
  · simp [h]
  · rw [List.getElem?_eq_none (by simp; omega)]; rfl
theorem vw_rep (n : Nat) : vw (List.replicate n 0) = 0 := vw_zeros fun i _ => nth_rep n i
theorem PackRel.start (xs : List Nat) : PackRel xs 0 (List.replicate ((xs.length + 3) / 4) 0) :=
  ⟨by simp, fun x hx => by rw [List.mem_replicate] at hx; omega, by rw [vw_rep]; simp [val], by rw [nth_rep]; decide, fun j _ => nth_rep _ j⟩
theorem PackRel.next {xs o : List Nat} {i : Nat} (h : PackRel xs i o) (hi : i < xs.length) (hL : Lim xs) : PackRel xs (i + 1) (o.set (i / 4) (nth o (i / 4) + nth xs i * 65536 ^ (i % 4))) := by
  obtain ⟨h1, h2, h3, h4, h5⟩ := h
  obtain ⟨k1, k2, k3, k4⟩ := pack_step hi (by omega) h3 h4 h5 hL
  refine ⟨by rw [List.length_set, h1], limW_set h2 (Nat.lt_of_lt_of_le k1 ?_), k2, k3, k4⟩
  have : (65536 : Nat) ^ (i % 4 + 1) ≤ 65536 ^ 4 := Nat.pow_le_pow_right (by decide) (by omega)
  exact this

theorem pack_or {a x r : Nat} (ha : a < 65536 ^ r) (hx : x < 65536) (hr : r < 4) : bits .or .u64 (a : Int) (IntKind.u64.wrap ((x : Int) * 2 ^ (16 * r))) = ((a + x * 65536 ^ r : Nat) : Int) := by
  have h3 : (65536 : Nat) ^ (r + 1) ≤ 65536 ^ 4 := Nat.pow_le_pow_right (by decide) (by omega)
  have h4 : (65536 : Nat) ^ 4 = 18446744073709551616 := by decide
  rw [h4, Nat.pow_succ] at h3
  have h5 : 65536 ^ r * x ≤ 65536 ^ r * 65535 := Nat.mul_le_mul_left _ (by omega)
  have e : (x : Int) * 2 ^ (16 * r) = ((65536 ^ r * x : Nat) : Int) := by
    rw [pow_int, Int.mul_comm, ← Int.natCast_mul, pow16]
  rw [e, u64_of (by omega), u64_or_nat _ _ (by omega) (by omega)]
  rw [pow16] at ha ⊢
  rw [or_nat ha, Nat.mul_comm]

set_option maxRecDepth 100000 in
set_option maxHeartbeats 2000000 in
theorem pack_any (A : Option Addr) (c : Nat) (xs : List Nat) (w : World) (hs : Sl w .u16 A xs) (hx : Lim xs) (hl : xs.length ≤ 1000000000) :
    Calls Tryz.prog 131 #[.slice A xs.length c] w fun e w' => ∃ o, e = .returned (.slice (some ⟨w.heap.size, 0, none⟩) ((xs.length + 3) / 4) ((xs.length + 3) / 4)) ∧ o.length = (xs.length + 3) / 4 ∧ LimW o ∧ vw o = val xs ∧ Row w' w.heap.size 86 .u64 o ∧ Below w.heap.size w w' := by
  obtain ⟨i0, hi, hz0, hz1, hz2⟩ := info_parts Tryz.info64
  have hmk := fun w => run_make_rowOf (P := Tryz.prog) 131 86 i0 .u64 (((xs.length : Int) + 3) / 4) ((xs.length + 3) / 4) w Tryz.underlying131 hi hz0 hz1 (by omega) (by omega) (by omega)
  clear hi hz0 hz1 hz2
  go_enter Tryz.func131, Tryz.ntmps131
  go_wp2
  go_loopw [13] (fun iv wr => ∃ (k : Nat) (o : List Nat), k ≤ xs.length ∧ iv = .int .i64 k ∧ PackRel xs k o ∧ Row wr w.heap.size 86 .u64 o ∧ Below w.heap.size w wr) (fun iv _ => xs.length - (intOf iv).toNat)
  case atStart => exact ⟨0, _, Nat.zero_le _, rfl, PackRel.start xs, Row.new _ _ _ _, (Below.refl _ _).alloc (Nat.le_refl _) _⟩
  case round =>
    obtain ⟨k, o, hk, rfl, hr, hrow, hbel⟩ := hrel
    have Hr := hid hr
    have hol := hid hr.1
    clear hr
    by_cases hlt : k < xs.length
    · obtain ⟨ad, rfl, hb1, hcell⟩ := (hs.below hbel) k hlt
      have hxk := lim_nth hx k
      have hc1 := hrow.cell (i := k / 4) (by have := hol.out; omega)
      have hf1 := hrow.frozen (k / 4)
      have hq : k / 4 < (xs.length + 3) / 4 := by omega
      go_wp2_with fail
      go_region
      rw [pack_or Hr.out.2.2.2.1 hxk (Nat.mod_lt _ (by decide))]
      go_wp2
      go_roundw
      case rel => exact ⟨k + 1, _, hlt, by go_num, Hr.out.next hlt hx, hrow.set _ _, (hbel.setCell (p := ⟨w.heap.size, k / 4, none⟩) (Nat.le_refl _) _).drew⟩
      case measure => simp [intOf]; omega
    · obtain rfl : k = xs.length := by omega
      go_wp2
      go_ret
      exact ⟨o, rfl, Hr.out.1, Hr.out.2.1, by rw [Hr.out.2.2.1, List.take_of_length_le (Nat.le_refl _)], hrow, hbel⟩

end Go.Proofs.YtffipjofefemiaaGreatDoor

namespace Go.Proofs.YtffipjofefemiaaGreatDoor
open Go.RowKit Kb

theorem word_limbs {x : Nat} (hx : x < 18446744073709551616) : x = x % 65536 + 65536 * (x / 65536 % 65536) + 4294967296 * (x / 4294967296 % 65536) + 281474976710656 * (x / 281474976710656 % 65536) := by omega
theorem unpack_val {ws o : List Nat} (hL : LimW ws) (h : ∀ j, j < 4 * ws.length → nth o j = nth ws (j / 4) / 65536 ^ (j % 4) % 65536) : ∀ k, k ≤ ws.length → val (o.take (4 * k)) = vw (ws.take k) := by
  intro k
  induction k with
  | zero => intro _; simp [val, vw]
  | succ k ih =>
    intro hk
    have e0 := h (4 * k) (by omega)
    have e1 := h (4 * k + 1) (by omega)
    have e2 := h (4 * k + 1 + 1) (by omega)
    have e3 := h (4 * k + 1 + 1 + 1) (by omega)
    rw [show 4 * k / 4 = k by omega, show 4 * k % 4 = 0 by omega, Nat.pow_zero, Nat.div_one] at e0
    rw [show (4 * k + 1) / 4 = k by omega, show (4 * k + 1) % 4 = 1 by omega, show (65536 : Nat) ^ 1 = 65536 by decide] at e1
    rw [show (4 * k + 1 + 1) / 4 = k by omega, show (4 * k + 1 + 1) % 4 = 2 by omega, show (65536 : Nat) ^ 2 = 4294967296 by decide] at e2
    rw [show (4 * k + 1 + 1 + 1) / 4 = k by omega, show (4 * k + 1 + 1 + 1) % 4 = 3 by omega, show (65536 : Nat) ^ 3 = 281474976710656 by decide] at e3
    have hw := word_limbs (limW_nth hL k)
    have hp : (65536 : Nat) ^ (4 * k) = 18446744073709551616 ^ k := by rw [Nat.pow_mul]
    have p1 : (65536 : Nat) ^ (4 * k + 1) = 65536 ^ (4 * k) * 65536 := Nat.pow_succ ..
    have p2 : (65536 : Nat) ^ (4 * k + 1 + 1) = 65536 ^ (4 * k) * 65536 * 65536 := by rw [Nat.pow_succ, p1]
    have p3 : (65536 : Nat) ^ (4 * k + 1 + 1 + 1) = 65536 ^ (4 * k) * 65536 * 65536 * 65536 := by rw [Nat.pow_succ, p2]
    rw [show 4 * (k + 1) = 4 * k + 1 + 1 + 1 + 1 by omega, val_take_succ', val_take_succ', val_take_succ', val_take_succ', ih (by omega), vw_take_succ, e0, e1, e2, e3, p3, p2, p1, hp]
    clear p1 p2 p3 e0 e1 e2 e3 hp ih h
    generalize 18446744073709551616 ^ k = P at *
    have hm := congrArg (fun t => P * t) hw
    simp only [Nat.mul_add] at hm
    have b : ∀ n : Nat, P * 65536 * n = P * (65536 * n) ∧ P * 65536 * 65536 * n = P * (4294967296 * n) ∧ P * 65536 * 65536 * 65536 * n = P * (281474976710656 * n) := fun n =>
      ⟨Nat.mul_assoc _ _ _, by rw [show P * 65536 * 65536 = P * 4294967296 by omega, Nat.mul_assoc], by rw [show P * 65536 * 65536 * 65536 = P * 281474976710656 by omega, Nat.mul_assoc]⟩
    rw [(b _).1, (b _).2.1, (b _).2.2, hm]
    omega
/-- i limbs are unpacked. -/
def UnRel (ws : List Nat) (i : Nat) (o : List Nat) : Prop :=
  o.length = 4 * ws.length ∧ Lim o ∧ ∀ j, j < i → nth o j = nth ws (j / 4) / 65536 ^ (j % 4) % 65536
theorem UnRel.next {ws o : List Nat} {i : Nat} (h : UnRel ws i o) (hi : i < 4 * ws.length) : UnRel ws (i + 1) (o.set i (nth ws (i / 4) / 65536 ^ (i % 4) % 65536)) := by
  obtain ⟨h1, h2, h3⟩ := h
  refine ⟨by rw [List.length_set, h1], lim_set h2 (Nat.mod_lt _ (by decide)), fun j hj => ?_⟩
  rw [nth_set (by omega)]
  by_cases e : j = i
  · rw [if_pos e, e]
  · rw [if_neg e]; exact h3 j (by omega)
theorem unpack_word (x r : Nat) : IntKind.u16.wrap ((x : Int) / 2 ^ (16 * r)) = ((x / 65536 ^ r % 65536 : Nat) : Int) := by
  rw [pow16_int, ← Int.natCast_ediv, u16_of]

set_option maxRecDepth 100000 in
set_option maxHeartbeats 2000000 in
theorem unpack_any (A : Option Addr) (c : Nat) (ws : List Nat) (w : World) (hs : Sl w .u64 A ws) (hx : LimW ws) (hl : ws.length ≤ 100000000) :
    Calls Tryz.prog 129 #[.slice A ws.length c] w fun e w' => ∃ v, e = .returned v ∧ Nm w' v (vw ws) ∧ Below w.heap.size w w' := by
  obtain ⟨i0, hi, hz0, hz1, hz2⟩ := info_parts Tryz.info16
  have hmk := fun w => run_make_rowOf (P := Tryz.prog) 22 92 i0 .u16 (4 * (ws.length : Int)) (4 * ws.length) w Tryz.underlying22 hi hz0 hz1 (by omega) (by omega) (by omega)
  clear hi hz0 hz1 hz2
  go_enter Tryz.func129, Tryz.ntmps129
  go_wp2
  go_loopw [11] (fun iv wr => ∃ (k : Nat) (o : List Nat), k ≤ 4 * ws.length ∧ iv = .int .i64 k ∧ UnRel ws k o ∧ Row wr w.heap.size 92 .u16 o ∧ Below w.heap.size w wr) (fun iv _ => 4 * ws.length - (intOf iv).toNat)
  case atStart => exact ⟨0, _, Nat.zero_le _, rfl, ⟨List.length_replicate .., fun x hx => by rw [List.mem_replicate] at hx; omega, fun j hj => by omega⟩, Row.new _ _ _ _, (Below.refl _ _).alloc (Nat.le_refl _) _⟩
  case round =>
    obtain ⟨k, o, hk, rfl, hr, hrow, hbel⟩ := hrel
    have Hr := hid hr
    have hol := hid hr.1
    clear hr
    by_cases hlt : k < 4 * ws.length
    · obtain ⟨ad, rfl, hb1, hcell⟩ := (hs.below hbel) (k / 4) (by omega)
      have hf1 := hrow.frozen k
      have hck := hrow.cell (i := k) (by have := hol.out; omega)
      have hq : k / 4 < ws.length := by omega
      go_wp2
      go_roundw
      case rel =>
        rw [unpack_word]
        exact ⟨k + 1, _, hlt, by go_num, Hr.out.next hlt, hrow.set _ _, hbel.setCell (p := ⟨w.heap.size, k, none⟩) (Nat.le_refl _) _⟩
      case measure => simp [intOf]; omega
    · obtain rfl : k = 4 * ws.length := by omega
      go_wp2_with fail
      refine (trim_nm _ _ _ o wr hrow.sl Hr.out.2.1 Hr.out.1 (Nat.le_refl _) (by unfold maxLen; omega)).mono ?_
      rintro e w2 ⟨v, rfl, hv, rfl⟩
      have hE := unpack_val hx Hr.out.2.2 ws.length (Nat.le_refl _)
      rw [List.take_of_length_le (by rw [Hr.out.1]; exact Nat.le_refl _), List.take_of_length_le (Nat.le_refl _)] at hE
      rw [hE] at hv
      go_wp2
      go_ret
      exact ⟨v, rfl, hv, hbel⟩

end Go.Proofs.YtffipjofefemiaaGreatDoor

namespace Go.Proofs.YtffipjofefemiaaGreatDoor
open Go.RowKit Kb

theorem sub64_run (x y b : Nat) (hx : x < 18446744073709551616) (hy : y < 18446744073709551616) (hb : b ≤ 1) : ∃ d b' : Nat, d < 18446744073709551616 ∧ b' ≤ 1 ∧ d + y + b = x + 18446744073709551616 * b' ∧ ∀ w : World, (callFunc 169 #[.int .u64 (x : Int), .int .u64 (y : Int), .int .u64 (b : Int)]).run Tryz.prog w = .ok (.value (.tuple #[.int .u64 (d : Int), .int .u64 (b' : Int)])) w := by
  refine ⟨(x + 18446744073709551616 - y - b) % 18446744073709551616, if x < y + b then 1 else 0, by omega, by split <;> omega, by split <;> omega, fun w => ?_⟩
  rw [run_callFunc_extern Tryz.func169 (by kernel_rfl) (by kernel_rfl) (by kernel_rfl) (e := sub64Entry) (by kernel_rfl), run_sub64 x y b hb]
  rfl

/-- Numbers that lie in a block from a place on. -/
def Seg (w : World) (g off : Nat) (t : TypeId) (k : IntKind) (xs : List Nat) : Prop :=
  ∃ cur : Array Value, w.heap[g]? = some (.cells cur t (0, 0)) ∧ off + xs.length ≤ cur.size ∧ ∀ i, i < xs.length → cur[off + i]? = some (.int k (nth xs i : Nat))
section
variable {w w' : World} {g off : Nat} {t : TypeId} {k : IntKind} {xs : List Nat}
theorem Seg.lt (h : Seg w g off t k xs) : g < w.heap.size := by
  obtain ⟨cur, h, _⟩ := h
  exact (Array.getElem?_eq_some_iff.1 h).1
theorem Seg.cell (h : Seg w g off t k xs) {i : Nat} (hi : i < xs.length) : w.cell? ⟨g, off + i, none⟩ = some (.int k (nth xs i)) := by
  obtain ⟨cur, h1, h2, h3⟩ := h
  rw [cell_of_row w g (off + i) _ t (0, 0) h1]
  exact h3 i hi
theorem Seg.frozen (h : Seg w g off t k xs) (i : Nat) : w.frozen? ⟨g, i, none⟩ = false := by
  obtain ⟨cur, h1, h2, h3⟩ := h
  simp [World.frozen?, h1]
theorem Seg.set (h : Seg w g off t k xs) {i : Nat} (hi : i < xs.length) (v : Nat) : Seg (w.setCell ⟨g, off + i, none⟩ (.int k (v : Int))) g off t k (xs.set i v) := by
  obtain ⟨cur, h1, h2, h3⟩ := h
  refine ⟨cur.setIfInBounds (off + i) (.int k (v : Int)), ?_, by simpa using h2, fun j hj => ?_⟩
  · simp only [World.setCell, Array.getElem?_modify, h1]
    simp
  · rw [List.length_set] at hj
    rw [nth_set hi, Array.getElem?_setIfInBounds]
    by_cases e : j = i
    · subst e
      rw [if_pos rfl, if_pos (by omega), if_pos rfl]
    · rw [if_neg (by omega), if_neg e]
      exact h3 j hj
theorem Seg.drew (h : Seg w g off t k xs) : Seg w.drew g off t k xs := h
end

/-- k words are taken. -/
def TakeW (xs ys : List Nat) (k : Nat) (o : List Nat) (b : Nat) : Prop :=
  o.length = xs.length ∧ LimW o ∧ (∀ i, k ≤ i → nth o i = nth xs i) ∧ b ≤ 1 ∧ vw (o.take k) + vw (ys.take k) = vw (xs.take k) + 18446744073709551616 ^ k * b
theorem TakeW.start {xs ys : List Nat} (hx : LimW xs) : TakeW xs ys 0 xs 0 := ⟨rfl, hx, fun _ _ => rfl, by decide, by simp [vw]⟩
theorem TakeW.next {xs ys o : List Nat} {k b d b' : Nat} (h : TakeW xs ys k o b) (hk : k < xs.length) (hd : d < 18446744073709551616) (hb : b' ≤ 1) (he : d + nth ys k + b = nth xs k + 18446744073709551616 * b') : TakeW xs ys (k + 1) (o.set k d) b' := by
  obtain ⟨h1, h2, h3, h4, h5⟩ := h
  refine ⟨by rw [List.length_set, h1], limW_set h2 hd, fun i hi => ?_, hb, ?_⟩
  · rw [nth_set (by omega), if_neg (by omega)]; exact h3 i (by omega)
  · rw [vw_take_succ, vw_take_succ, vw_take_succ, nth_set (by omega), if_pos rfl, List.take_set_of_le (Nat.le_refl k), Nat.pow_succ]
    have := congrArg (fun t => 18446744073709551616 ^ k * t) he
    simp only [Nat.mul_add] at this
    rw [Nat.mul_assoc]
    omega
theorem TakeW.done {xs ys o : List Nat} {b : Nat} (h : TakeW xs ys xs.length o b) (hl : ys.length ≤ xs.length) (hv : vw ys ≤ vw xs) : vw o = vw xs - vw ys := by
  obtain ⟨h1, h2, h3, h4, h5⟩ := h
  rw [List.take_of_length_le (by omega), List.take_of_length_le hl, List.take_of_length_le (Nat.le_refl _)] at h5
  have h6 := vw_lt h2
  rw [h1] at h6
  have : b = 0 ∨ b = 1 := by omega
  rcases this with rfl | rfl <;> omega

end Go.Proofs.YtffipjofefemiaaGreatDoor

namespace Go.Proofs.YtffipjofefemiaaGreatDoor
open Go.RowKit Kb

set_option maxRecDepth 100000 in
set_option maxHeartbeats 4000000 in
theorem takeWords_any (g off c d : Nat) (B : Option Addr) (xs ys : List Nat) (w : World) (hp : Seg w g off 86 .u64 xs) (hB : ∀ w', w.grownBy w' (some g) → Sl w' .u64 B ys) (hx : LimW xs) (hy : LimW ys) (hl : xs.length ≤ 100000000) (hyl : ys.length ≤ xs.length) (hv : vw ys ≤ vw xs) :
    Calls Tryz.prog 155 #[.slice (some ⟨g, off, none⟩) xs.length c, .slice B ys.length d] w fun e w' => e = .returned (.tuple #[]) ∧ ∃ o, o.length = xs.length ∧ LimW o ∧ vw o = vw xs - vw ys ∧ Seg w' g off 86 .u64 o ∧ w.grownBy w' (some g) := by
  skip
  go_enter Tryz.func155, Tryz.ntmps155
  go_wp2
  go_loopw [4, 8] (fun cv iv wr => ∃ (k b : Nat) (o : List Nat), k ≤ xs.length ∧ cv = .int .u64 b ∧ iv = .int .i64 k ∧ TakeW xs ys k o b ∧ Seg wr g off 86 .u64 o ∧ w.grownBy wr (some g)) (fun _ iv _ => xs.length - (intOf iv).toNat)
  case atStart => exact ⟨0, 0, xs, Nat.zero_le _, rfl, rfl, TakeW.start hx, hp, World.grownBy.refl _ _⟩
  case round =>
    obtain ⟨k, b, o, hk, rfl, rfl, hr, hseg, hgr⟩ := hrel
    have Hr := hid hr
    have hol := hid hr.1
    have Hb := hid hr.2.2.2.1
    clear hr
    by_cases hlt : k < xs.length
    · have hcell := hseg.cell (i := k) (by have := hol.out; omega)
      have hfr := hseg.frozen (off + k)
      by_cases hlt2 : k < ys.length
      · obtain ⟨ad, rfl, hb1, hcy⟩ := (hB wr hgr) k hlt2
        obtain ⟨dd, b', h1, h2, h3, hrun⟩ := sub64_run (nth o k) (nth ys k) b (limW_nth Hr.out.2.1 k) (limW_nth hy k) Hb.out
        have H3 := hid h3
        have H1 := hid h1
        have H2 := hid h2
        clear h1 h2 h3
        go_wp2_with fail
        go_region_with (simp only [hrun])
        all_goals
          go_wp2
          go_roundw
          case rel => exact ⟨k + 1, b', _, hlt, rfl, by go_num, Hr.out.next hlt H1.out H2.out (by rw [← Hr.out.2.2.1 k (Nat.le_refl _)]; exact H3.out), (hseg.set (by have := hol.out; omega) _).drew, gb_drewN (gb_set hgr _ _) 1⟩
          case measure => simp [intOf]; omega
      · obtain ⟨dd, b', h1, h2, h3, hrun⟩ := sub64_run (nth o k) 0 b (limW_nth Hr.out.2.1 k) (by decide) Hb.out
        have H3 := hid h3
        have H1 := hid h1
        have H2 := hid h2
        clear h1 h2 h3
        have hrun : ∀ w : World, (callFunc 169 #[.int .u64 (nth o k : Int), .int .u64 0, .int .u64 (b : Int)]).run Tryz.prog w = .ok (.value (.tuple #[.int .u64 (dd : Int), .int .u64 (b' : Int)])) w := hrun
        go_wp2_with (simp only [hrun])
        go_roundw
        case rel => exact ⟨k + 1, b', _, hlt, rfl, by go_num, Hr.out.next hlt H1.out H2.out (by rw [← Hr.out.2.2.1 k (Nat.le_refl _), nth_out (by omega)]; exact H3.out), hseg.set (by have := hol.out; omega) _, gb_set hgr _ _⟩
        case measure => simp [intOf]; omega
    · obtain rfl : k = xs.length := by omega
      go_wp2
      go_end0
      exact ⟨rfl, o, Hr.out.1, Hr.out.2.1, Hr.out.done hyl hv, hseg, hgr⟩

end Go.Proofs.YtffipjofefemiaaGreatDoor

namespace Kb
open Go

theorem u64_of' (s : Nat) : IntKind.u64.wrap (s : Int) = ((s % 18446744073709551616 : Nat) : Int) := by rw [IntKind.wrap_u64]; omega
theorem pow_splitW {s : Nat} (hs : s < 64) : 2 ^ s * 2 ^ (64 - s) = 18446744073709551616 := by
  rw [← Nat.pow_add, show s + (64 - s) = 64 by omega]
theorem downW_or {a z s : Nat} (ha : a < 18446744073709551616) (hs : s < 64) :
    bits .or .u64 ((a : Int) / 2 ^ s) (IntKind.u64.wrap ((z : Int) * 2 ^ (64 - s))) = ((a / 2 ^ s + (z % 2 ^ s) * 2 ^ (64 - s) : Nat) : Int) := by
  have hp := pow_splitW hs
  have h1 : a / 2 ^ s < 2 ^ (64 - s) := by
    apply Nat.div_lt_of_lt_mul
    rw [hp]; exact ha
  have h2 : z * 2 ^ (64 - s) % 18446744073709551616 = (z % 2 ^ s) * 2 ^ (64 - s) := by
    rw [← hp]; exact Nat.mul_mod_mul_right _ _ _
  have hps : 0 < 2 ^ (64 - s) := Nat.pow_pos (by decide)
  have h3 : (z % 2 ^ s) * 2 ^ (64 - s) < 18446744073709551616 := by
    rw [← hp]; exact Nat.mul_lt_mul_of_pos_right (Nat.mod_lt _ (Nat.pow_pos (by decide))) hps
  have h4 : a / 2 ^ s < 18446744073709551616 := Nat.lt_of_le_of_lt (Nat.div_le_self _ _) ha
  rw [pow_int s, pow_int (64 - s), ← Int.natCast_mul, ← Int.natCast_ediv, u64_of', h2, u64_or_nat _ _ h4 h3]
  rw [Nat.mul_comm (z % 2 ^ s), or_nat h1]
/-- Digits that a shift leaves, joined: the quotient. -/
theorem downW_val {xs o : List Nat} {s : Nat} (hs : s < 64) (hl : o.length = xs.length) (h : ∀ i, i < xs.length → nth o i = nth xs i / 2 ^ s + (nth xs (i + 1) % 2 ^ s) * 2 ^ (64 - s)) : vw o = vw xs / 2 ^ s := by
  have hp := pow_splitW hs
  have hpos : 0 < 2 ^ s := Nat.pow_pos (by decide)
  have key : ∀ m k, xs.length = m + k → 2 ^ s * vw (o.drop k) + nth xs k % 2 ^ s = vw (xs.drop k) := by
    intro m
    induction m with
    | zero =>
      intro k hk
      rw [List.drop_of_length_le (by omega), List.drop_of_length_le (by omega), nth_out (by omega)]
      simp [vw]
    | succ m ih =>
      intro k hk
      have e := ih (k + 1) (by omega)
      rw [vw_drop_nth (l := o) (by omega), vw_drop_nth (l := xs) (by omega), h k (by omega), ← e]
      have e1 : 2 ^ s * (nth xs (k + 1) % 2 ^ s * 2 ^ (64 - s)) = 18446744073709551616 * (nth xs (k + 1) % 2 ^ s) := by
        rw [Nat.mul_comm (nth xs (k + 1) % 2 ^ s), ← Nat.mul_assoc, hp]
      have e2 : 2 ^ s * (18446744073709551616 * vw (o.drop (k + 1))) = 18446744073709551616 * (2 ^ s * vw (o.drop (k + 1))) := Nat.mul_left_comm _ _ _
      have e3 := Nat.div_add_mod (nth xs k) (2 ^ s)
      rw [Nat.mul_add, Nat.mul_add, e1, e2]
      omega
  have e := key xs.length 0 (by omega)
  rw [List.drop_zero, List.drop_zero] at e
  rw [← e, Nat.mul_add_div hpos, Nat.div_eq_of_lt (Nat.mod_lt _ hpos)]
  omega

theorem downW_lt {a z s : Nat} (ha : a < 18446744073709551616) (hs : s < 64) : a / 2 ^ s + (z % 2 ^ s) * 2 ^ (64 - s) < 18446744073709551616 := by
  have hp := pow_splitW hs
  have h1 : a / 2 ^ s < 2 ^ (64 - s) := by
    apply Nat.div_lt_of_lt_mul
    rw [hp]; exact ha
  have h2 : z % 2 ^ s + 1 ≤ 2 ^ s := Nat.mod_lt _ (Nat.pow_pos (by decide))
  have h3 : (z % 2 ^ s + 1) * 2 ^ (64 - s) ≤ 2 ^ s * 2 ^ (64 - s) := Nat.mul_le_mul_right _ h2
  rw [Nat.add_mul, Nat.one_mul, hp] at h3
  omega

/-- Digits of a division by a power of two: those below k are shifted. -/
def DownW (xs : List Nat) (s k : Nat) (o : List Nat) : Prop :=
  o.length = xs.length ∧ LimW o ∧ o.drop k = xs.drop k ∧ ∀ i, i < k → nth o i = nth xs i / 2 ^ s + (nth xs (i + 1) % 2 ^ s) * 2 ^ (64 - s)

theorem DownW.cur {xs o : List Nat} {s k i : Nat} (h : DownW xs s k o) (hi : k ≤ i) : nth o i = nth xs i := by
  have e : nth (o.drop k) (i - k) = nth (xs.drop k) (i - k) := by rw [h.2.2.1]
  rw [nth_drop, nth_drop, show k + (i - k) = i by omega] at e
  exact e
theorem DownW.next {xs o : List Nat} {s k d : Nat} (h : DownW xs s k o) (hk : k < xs.length) (hd : d < 18446744073709551616) (he : d = nth xs k / 2 ^ s + (nth xs (k + 1) % 2 ^ s) * 2 ^ (64 - s)) :
    DownW xs s (k + 1) (o.set k d) := by
  obtain ⟨h1, h2, h3, h4⟩ := h
  refine ⟨by rw [List.length_set, h1], limW_set h2 hd, ?_, fun i hi => ?_⟩
  · rw [drop_set_lt (by omega)]
    have := congrArg (List.drop 1) h3
    rwa [List.drop_drop, List.drop_drop] at this
  · rw [nth_set (by omega)]
    by_cases e : i = k
    · rw [if_pos e, he, e]
    · rw [if_neg e]; exact h4 i (by omega)

end Kb

namespace Go.Proofs.YtffipjofefemiaaGreatDoor
open Go.RowKit Kb

section
variable {w w' : World} {g off : Nat} {t : TypeId} {k : IntKind} {xs : List Nat}
theorem Seg.drop (h : Seg w g off t k xs) (q : Nat) (hq : q ≤ xs.length) : Seg w g (off + q) t k (xs.drop q) := by
  obtain ⟨cur, h1, h2, h3⟩ := h
  refine ⟨cur, h1, by rw [List.length_drop]; omega, fun i hi => ?_⟩
  rw [List.length_drop] at hi
  rw [nth_drop, Nat.add_assoc]
  exact h3 (q + i) (by omega)
theorem Seg.take (h : Seg w g off t k xs) (m : Nat) : Seg w g off t k (xs.take m) := by
  obtain ⟨cur, h1, h2, h3⟩ := h
  refine ⟨cur, h1, by rw [List.length_take]; omega, fun i hi => ?_⟩
  rw [List.length_take] at hi
  rw [h3 i (by omega)]
  congr 2
  unfold nth
  rw [List.getD_eq_getElem?_getD, List.getD_eq_getElem?_getD, List.getElem?_take_of_lt (by omega)]
theorem Seg.sl (h : Seg w g off t k xs) : Sl w k (some ⟨g, off, none⟩) xs := fun i hi => ⟨⟨g, off, none⟩, rfl, h.lt, by
  rw [Addr.add_lit]
  exact h.cell hi⟩
end
theorem set_set_sameW {l : List Nat} {k a b : Nat} : (l.set k a).set k b = l.set k b := by simp

end Go.Proofs.YtffipjofefemiaaGreatDoor

namespace Go.Proofs.YtffipjofefemiaaGreatDoor
open Go.RowKit Kb

set_option maxRecDepth 100000 in
set_option maxHeartbeats 4000000 in
theorem downBits_any (g off c by_ : Nat) (xs : List Nat) (w : World) (hp : Seg w g off 86 .u64 xs) (hx : LimW xs) (hl : xs.length ≤ 100000000) (hc : xs.length ≤ c) (hcm : c ≤ maxLen) (hby : by_ / 64 < xs.length) :
    Calls Tryz.prog 153 #[.slice (some ⟨g, off, none⟩) xs.length c, .int .i64 by_] w fun e w' => ∃ o m, e = .returned (.slice (some ⟨g, off + by_ / 64, none⟩) m (c - by_ / 64)) ∧ m ≤ o.length ∧ LimW o ∧ TopW (o.take m) ∧ vw (o.take m) = vw (xs.drop (by_ / 64)) / 2 ^ (by_ % 64) ∧ Seg w' g (off + by_ / 64) 86 .u64 o ∧ w.grownBy w' (some g) := by
  obtain ⟨q, hq⟩ : ∃ q, q = by_ / 64 := ⟨_, rfl⟩
  obtain ⟨s, hs⟩ : ∃ s, s = by_ % 64 := ⟨_, rfl⟩
  have hs64 : s < 64 := by omega
  have hqi : (by_ : Int) / 64 = (q : Int) := by omega
  have hsi : (by_ : Int) % 64 = (s : Int) := by omega
  have hbb : by_ ≤ 64 * 100000000 + 64 := by omega
  rw [← hq, ← hs]
  rw [← hq] at hby
  clear hq hs
  have hp2 := hp.drop q (Nat.le_of_lt hby)
  have hcq : ¬ c = q := by omega
  have hdl : (xs.drop q).length = xs.length - q := List.length_drop ..
  obtain ⟨ds, hds⟩ : ∃ ds, ds = xs.drop q := ⟨_, rfl⟩
  rw [← hds] at hp2 hdl ⊢
  have hdx : LimW ds := by rw [hds]; exact limW_drop hx q
  clear hds hp hx
  unfold maxLen at hcm
  go_enter Tryz.func153, Tryz.ntmps153
  go_wp2_with (first | rw [hqi] | rw [hsi])
  go_loopw [15] (fun iv wr => ∃ (k : Nat) (o : List Nat), k ≤ ds.length ∧ iv = .int .i64 k ∧ DownW ds s k o ∧ Seg wr g (off + q) 86 .u64 o ∧ w.grownBy wr (some g)) (fun iv _ => ds.length - (intOf iv).toNat)
  case atStart => exact ⟨0, ds, Nat.zero_le _, rfl, ⟨rfl, hdx, rfl, fun i hi => by omega⟩, hp2, World.grownBy.refl _ _⟩
  case round =>
    obtain ⟨k, o, hk, rfl, hr, hrow, hgr⟩ := hrel
    have hol := hid hr.1
    have Hr := hid hr
    clear hr
    by_cases hlt : k < ds.length
    · have hcell := hrow.cell (i := k) (by have := hol.out; omega)
      have hfr := hrow.frozen (off + q + k)
      have e1 : (nth o k : Int) / 2 ^ s = ((nth o k / 2 ^ s : Nat) : Int) := by rw [pow_int, Int.natCast_ediv]
      have hrow1 := hrow.set (i := k) (by have := hol.out; omega) (nth o k / 2 ^ s)
      have hg1 := gb_set hgr (off + q + k) (.int .u64 ((nth o k / 2 ^ s : Nat) : Int))
      rw [← e1] at hrow1 hg1
      have E1 := hid e1
      clear e1
      by_cases hlt2 : k + 1 < ds.length
      · have hcell2 := hrow.cell (i := k + 1) (by have := hol.out; omega)
        go_wp2_with fail
        clear hcell hcell2 hfr hgr
        generalize wr.setCell ⟨g, off + q + k, none⟩ (.int .u64 ((nth o k : Int) / 2 ^ s)) = w1 at *
        have hc1 := hrow1.cell (i := k) (by rw [List.length_set]; have := hol.out; omega)
        have hc2 := hrow1.cell (i := k + 1) (by rw [List.length_set]; have := hol.out; omega)
        rw [nth_set (by have := hol.out; omega), if_pos rfl] at hc1
        rw [nth_set (by have := hol.out; omega), if_neg (by omega)] at hc2
        have hf1 := hrow1.frozen (off + q + k)
        go_region
        all_goals
          go_wp2
          go_roundw
          case rel =>
            have hlim : nth o k < 18446744073709551616 := by rw [Hr.out.cur (Nat.le_refl _)]; exact limW_nth hdx _
            rw [downW_or (a := nth o k) (z := nth o (k + 1)) (s := s) hlim hs64]
            have hw := hrow1.set (i := k) (by rw [List.length_set]; have := hol.out; omega) (nth o k / 2 ^ s + (nth o (k + 1) % 2 ^ s) * 2 ^ (64 - s))
            rw [set_set_sameW] at hw
            exact ⟨k + 1, _, hlt, by go_num, Hr.out.next hlt (downW_lt hlim hs64) (by rw [Hr.out.cur (Nat.le_refl _), Hr.out.cur (Nat.le_succ _)]), hw.drew, gb_drewN (gb_set hg1 _ _) 1⟩
          case measure => simp [intOf]; omega
      · go_wp2
        go_roundw
        case rel =>
          have h0 : nth ds (k + 1) = 0 := nth_out (by omega)
          refine ⟨k + 1, _, hlt, by go_num, Hr.out.next (d := nth o k / 2 ^ s) hlt ?_ (by rw [Hr.out.cur (Nat.le_refl _), h0]; simp), hrow1, hg1⟩
          exact Nat.lt_of_le_of_lt (Nat.div_le_self _ _) (by rw [Hr.out.cur (Nat.le_refl _)]; exact limW_nth hdx _)
        case measure => simp [intOf]; omega
    · obtain rfl : k = ds.length := by omega
      have hn : o.length = xs.length - q := by rw [hol.out, hdl]
      go_wp2_with fail
      refine (trimWords_any _ _ _ o wr hrow.sl hn (by omega) (by unfold maxLen; omega)).mono ?_
      rintro e w2 ⟨m, rfl, hm, ht, hvt, rfl⟩
      have hmo : m ≤ o.length := by omega
      go_wp2
      go_ret
      exact ⟨o, m, rfl, hmo, Hr.out.2.1, ht, by rw [hvt]; exact downW_val hs64 Hr.out.1 (fun i hi => Hr.out.2.2.2 i hi), hrow, hgr⟩

end Go.Proofs.YtffipjofefemiaaGreatDoor

namespace Kb
open Go

/-- k words are shifted up by 64 q + s. -/
def UpW (xs : List Nat) (s q k : Nat) (o : List Nat) : Prop :=
  o.length = q + xs.length + 1 ∧ LimW o ∧ nth o (q + k) < 2 ^ s ∧ (∀ j, q + k < j → nth o j = 0) ∧ vw o = 18446744073709551616 ^ q * (2 ^ s * vw (xs.take k))
theorem upW_split {x s : Nat} (hs : s < 64) : x * 2 ^ s = x * 2 ^ s % 18446744073709551616 + 18446744073709551616 * (x / 2 ^ (64 - s)) ∧ x * 2 ^ s % 18446744073709551616 = 2 ^ s * (x % 2 ^ (64 - s)) := by
  have hp := pow_splitW hs
  have h1 : x * 2 ^ s / 18446744073709551616 = x / 2 ^ (64 - s) := by
    rw [← hp, Nat.mul_comm x]
    exact Nat.mul_div_mul_left _ _ (Nat.pow_pos (by decide))
  have h2 : x * 2 ^ s % 18446744073709551616 = 2 ^ s * (x % 2 ^ (64 - s)) := by
    rw [← hp, Nat.mul_comm x]
    exact Nat.mul_mod_mul_left _ _ _
  refine ⟨?_, h2⟩
  have := Nat.mod_add_div (x * 2 ^ s) 18446744073709551616
  rw [h1] at this
  exact this.symm
theorem upW_sum {a x s : Nat} (ha : a < 2 ^ s) (hs : s < 64) : a + x * 2 ^ s % 18446744073709551616 < 18446744073709551616 := by
  have hp := pow_splitW hs
  rw [(upW_split (x := x) hs).2]
  have h1 : x % 2 ^ (64 - s) + 1 ≤ 2 ^ (64 - s) := Nat.mod_lt _ (Nat.pow_pos (by decide))
  have h2 := Nat.mul_le_mul_left (2 ^ s) h1
  rw [hp, Nat.mul_add, Nat.mul_one] at h2
  omega
theorem upW_hi {x s : Nat} (hx : x < 18446744073709551616) (hs : s < 64) : x / 2 ^ (64 - s) < 2 ^ s := by
  apply Nat.div_lt_of_lt_mul
  rw [Nat.mul_comm, pow_splitW hs]
  exact hx
theorem upW_or {a x s : Nat} (ha : a < 2 ^ s) (hs : s < 64) : bits .or .u64 (a : Int) (IntKind.u64.wrap ((x : Int) * 2 ^ s)) = ((a + x * 2 ^ s % 18446744073709551616 : Nat) : Int) := by
  have h1 := upW_sum (x := x) ha hs
  rw [pow_int, ← Int.natCast_mul, u64_of', u64_or_nat _ _ (by omega) (Nat.mod_lt _ (by decide)), (upW_split (x := x) hs).2, or_nat ha]
theorem UpW.next {xs o : List Nat} {s q k : Nat} (h : UpW xs s q k o) (hx : LimW xs) (hk : k < xs.length) (hs : s < 64) :
    UpW xs s q (k + 1) ((o.set (q + k) (nth o (q + k) + nth xs k * 2 ^ s % 18446744073709551616)).set (q + k + 1) (nth xs k / 2 ^ (64 - s))) := by
  obtain ⟨h1, h2, h3, h4, h5⟩ := h
  have hxk := limW_nth hx k
  have hs1 := upW_sum (x := nth xs k) h3 hs
  have hs2 := upW_hi hxk hs
  have hlt : nth xs k / 2 ^ (64 - s) < 18446744073709551616 := Nat.lt_of_le_of_lt (Nat.div_le_self _ _) hxk
  have l1 : (o.set (q + k) (nth o (q + k) + nth xs k * 2 ^ s % 18446744073709551616)).length = o.length := List.length_set ..
  refine ⟨by rw [List.length_set, l1, h1], limW_set (limW_set h2 hs1) hlt, ?_, fun j hj => ?_, ?_⟩
  · rw [show q + (k + 1) = q + k + 1 by omega, nth_set (by omega), if_pos rfl]; exact hs2
  · rw [nth_set (by omega), if_neg (by omega), nth_set (by omega), if_neg (by omega)]; exact h4 j (by omega)
  · have e1 := vw_set (l := o) (k := q + k) (v := nth o (q + k) + nth xs k * 2 ^ s % 18446744073709551616) (by omega)
    have e2 := vw_set (l := o.set (q + k) (nth o (q + k) + nth xs k * 2 ^ s % 18446744073709551616)) (k := q + k + 1) (v := nth xs k / 2 ^ (64 - s)) (by omega)
    have e0 : nth (o.set (q + k) (nth o (q + k) + nth xs k * 2 ^ s % 18446744073709551616)) (q + k + 1) = 0 := by
      rw [nth_set (by omega), if_neg (by omega)]
      exact h4 _ (by omega)
    rw [e0, Nat.mul_zero, Nat.add_zero] at e2
    rw [e2]
    have e3 := congrArg (fun t => 18446744073709551616 ^ (q + k) * t) (upW_split (x := nth xs k) hs).1
    simp only [Nat.mul_add] at e1 e3
    have e4 : 18446744073709551616 ^ (q + k + 1) * (nth xs k / 2 ^ (64 - s)) = 18446744073709551616 ^ (q + k) * (18446744073709551616 * (nth xs k / 2 ^ (64 - s))) := by
      rw [Nat.pow_succ, Nat.mul_assoc]
    have e5 : 18446744073709551616 ^ q * (2 ^ s * vw (xs.take (k + 1))) = vw o + 18446744073709551616 ^ (q + k) * (nth xs k * 2 ^ s) := by
      rw [vw_take_succ, Nat.mul_add, Nat.mul_add, ← h5, Nat.pow_add]
      congr 1
      rw [Nat.mul_assoc, Nat.mul_left_comm (2 ^ s), Nat.mul_comm (2 ^ s)]
    rw [e4, e5]
    omega

end Kb

namespace Go.Proofs.YtffipjofefemiaaGreatDoor
open Go.RowKit Kb

theorem upW_start (xs : List Nat) (s q : Nat) : UpW xs s q 0 (List.replicate (q + xs.length + 1) 0) :=
  ⟨by simp, fun x hx => by rw [List.mem_replicate] at hx; omega, by rw [nth_rep]; exact Nat.pow_pos (by decide), fun j _ => nth_rep _ j, by rw [vw_rep]; simp [vw]⟩
theorem or_zeroW {x : Nat} (hx : x < 18446744073709551616) : bits .or .u64 0 (x : Int) = (x : Int) := by
  have := u64_or_nat 0 x (by decide) hx
  rw [Nat.zero_or] at this
  exact this
theorem upW_top {x s : Nat} (hx : x < 18446744073709551616) : bits .or .u64 0 ((x : Int) / 2 ^ (64 - s)) = ((x / 2 ^ (64 - s) : Nat) : Int) := by
  rw [pow_int, ← Int.natCast_ediv]
  exact or_zeroW (Nat.lt_of_le_of_lt (Nat.div_le_self _ _) hx)

set_option maxRecDepth 100000 in
set_option maxHeartbeats 4000000 in
theorem upBits_any (A : Option Addr) (c by_ : Nat) (xs : List Nat) (w : World) (hs : Sl w .u64 A xs) (hx : LimW xs) (hl : xs.length ≤ 100000000) (hby : by_ ≤ 6400000000) :
    Calls Tryz.prog 157 #[.slice A xs.length c, .int .i64 by_] w fun e w' => ∃ o m, e = .returned (.slice (some ⟨w.heap.size, 0, none⟩) m (by_ / 64 + xs.length + 1)) ∧ m ≤ o.length ∧ LimW o ∧ TopW (o.take m) ∧ vw (o.take m) = 18446744073709551616 ^ (by_ / 64) * (2 ^ (by_ % 64) * vw xs) ∧ Row w' w.heap.size 86 .u64 o ∧ Below w.heap.size w w' := by
  obtain ⟨i0, hi, hz0, hz1, hz2⟩ := info_parts Tryz.info64
  have hmk := fun w => run_make_rowOf (P := Tryz.prog) 131 86 i0 .u64 ((by_ : Int) / 64 + (xs.length : Int) + 1) (by_ / 64 + xs.length + 1) w Tryz.underlying131 hi hz0 hz1 (by omega) (by omega) (by omega)
  clear hi hz0 hz1 hz2
  have hs64 : by_ % 64 < 64 := Nat.mod_lt _ (by decide)
  go_enter Tryz.func157, Tryz.ntmps157
  go_wp2
  go_loopw [20] (fun iv wr => ∃ (k : Nat) (o : List Nat), k ≤ xs.length ∧ iv = .int .i64 k ∧ UpW xs (by_ % 64) (by_ / 64) k o ∧ Row wr w.heap.size 86 .u64 o ∧ Below w.heap.size w wr) (fun iv _ => xs.length - (intOf iv).toNat)
  case atStart => exact ⟨0, _, Nat.zero_le _, rfl, upW_start xs _ _, Row.new _ _ _ _, (Below.refl _ _).alloc (Nat.le_refl _) _⟩
  case round =>
    obtain ⟨k, o, hk, rfl, hr, hrow, hbel⟩ := hrel
    have hol := hid hr.1
    have Hr := hid hr
    have h0 : nth o (by_ / 64 + k + 1) = 0 := hr.2.2.2.1 _ (by omega)
    have Hlt := hid hr.2.2.1
    clear hr
    by_cases hlt : k < xs.length
    · obtain ⟨ad, rfl, hb1, hcell⟩ := (hs.below hbel) k hlt
      have hxk := hid (limW_nth hx k)
      have hc1 := hrow.cell (i := by_ / 64 + k) (by have := hol.out; omega)
      have hf1 := hrow.frozen (by_ / 64 + k)
      have hb2 : by_ / 64 + k < by_ / 64 + xs.length + 1 := by omega
      have hb3 : by_ / 64 + k + 1 < by_ / 64 + xs.length + 1 := by omega
      go_wp2_with fail
      go_region
      rw [upW_or Hlt.out hs64]
      have hrow2 : Row (wr.setCell ⟨w.heap.size, by_ / 64 + k, none⟩ (.int .u64 ((nth o (by_ / 64 + k) + nth xs k * 2 ^ (by_ % 64) % 18446744073709551616 : Nat) : Int))).drew w.heap.size 86 .u64 _ := hrow.set (by_ / 64 + k) _
      have hbel2 := (hbel.setCell (p := ⟨w.heap.size, by_ / 64 + k, none⟩) (Nat.le_refl _) (.int .u64 ((nth o (by_ / 64 + k) + nth xs k * 2 ^ (by_ % 64) % 18446744073709551616 : Nat) : Int))).drew
      generalize (wr.setCell ⟨w.heap.size, by_ / 64 + k, none⟩ (.int .u64 ((nth o (by_ / 64 + k) + nth xs k * 2 ^ (by_ % 64) % 18446744073709551616 : Nat) : Int))).drew = w1 at hrow2 hbel2 ⊢
      clear hc1 hf1 hcell hb1 hrow hbel
      have hc2 := hrow2.cell (i := by_ / 64 + k + 1) (by rw [List.length_set]; have := hol.out; omega)
      rw [nth_set (by have := hol.out; omega), if_neg (by omega), h0] at hc2
      have hf2 := hrow2.frozen (by_ / 64 + k + 1)
      clear h0
      go_wp2_with fail
      go_region
      all_goals
        go_wp2
        go_roundw
        case rel =>
          rw [upW_top hxk.out]
          exact ⟨k + 1, _, hlt, by go_num, Hr.out.next hx hlt hs64, hrow2.set (by_ / 64 + k + 1) _, (hbel2.setCell (p := ⟨w.heap.size, by_ / 64 + k + 1, none⟩) (Nat.le_refl _) _).drew⟩
        case measure => simp [intOf]; omega
    · obtain rfl : k = xs.length := by omega
      have hn : o.length = by_ / 64 + xs.length + 1 := hol.out
      go_wp2_with fail
      refine (trimWords_any _ _ _ o wr hrow.sl hn (Nat.le_refl _) (by unfold maxLen; omega)).mono ?_
      rintro e w2 ⟨m, rfl, hm, ht, hvt, rfl⟩
      have hmo : m ≤ o.length := by omega
      have hE : vw (o.take m) = 18446744073709551616 ^ (by_ / 64) * (2 ^ (by_ % 64) * vw xs) := by
        rw [hvt, Hr.out.2.2.2.2, List.take_of_length_le (Nat.le_refl _)]
      go_wp2
      go_ret
      exact ⟨o, m, rfl, hmo, Hr.out.2.1, ht, hE, hrow, hbel⟩

end Go.Proofs.YtffipjofefemiaaGreatDoor

namespace Kb

/-- How often 2 divides a number. -/
def tz (x : Nat) : Nat := if h : x = 0 then 0 else if x % 2 = 1 then 0 else tz (x / 2) + 1
termination_by x
decreasing_by omega
theorem tz_odd (m : Nat) : tz (2 * m + 1) = 0 := by
  rw [tz, dif_neg (by omega), if_pos (by omega)]
theorem tz_double {x : Nat} (h : x ≠ 0) : tz (2 * x) = tz x + 1 := by
  rw [tz, dif_neg (by omega), if_neg (by omega), show 2 * x / 2 = x by omega]
theorem tz_pow (z m : Nat) : tz (2 ^ z * (2 * m + 1)) = z := by
  induction z with
  | zero => rw [Nat.pow_zero, Nat.one_mul, tz_odd]
  | succ z ih =>
    have h0 : 2 ^ z * (2 * m + 1) ≠ 0 := Nat.mul_ne_zero (Nat.ne_of_gt (Nat.pow_pos (by decide))) (by omega)
    rw [Nat.pow_succ, Nat.mul_comm (2 ^ z) 2, Nat.mul_assoc, tz_double h0, ih]
/-- A number without its factors 2. -/
def op (x : Nat) : Nat := x / 2 ^ tz x
theorem op_pow (z m : Nat) : op (2 ^ z * (2 * m + 1)) = 2 * m + 1 := by
  unfold op; rw [tz_pow, Nat.mul_div_cancel_left _ (Nat.pow_pos (by decide))]
theorem op_spec {x : Nat} (h : x ≠ 0) : ∃ m, op x = 2 * m + 1 ∧ x = 2 ^ tz x * (2 * m + 1) := by
  induction x using Nat.strongRecOn with
  | ind x ih =>
    by_cases h1 : x % 2 = 1
    · have e : x = 2 * (x / 2) + 1 := by omega
      have := op_pow 0 (x / 2)
      rw [Nat.pow_zero, Nat.one_mul, ← e] at this
      refine ⟨x / 2, by rw [this]; exact e, ?_⟩
      have t := tz_odd (x / 2)
      rw [← e] at t
      rw [t, Nat.pow_zero, Nat.one_mul]; exact e
    · obtain ⟨m, h2, h3⟩ := ih (x / 2) (by omega) (by omega)
      have e : x = 2 ^ (tz (x / 2) + 1) * (2 * m + 1) := by
        rw [Nat.pow_succ, Nat.mul_comm _ 2, Nat.mul_assoc, ← h3]; omega
      have t := tz_pow (tz (x / 2) + 1) m
      have o := op_pow (tz (x / 2) + 1) m
      rw [← e] at t o
      exact ⟨m, o, by rw [t]; exact e⟩
theorem op_le (x : Nat) : op x ≤ x := Nat.div_le_self _ _
theorem first_word {xs : List Nat} (h : vw xs ≠ 0) : ∃ i, i < xs.length ∧ nth xs i ≠ 0 ∧ ∀ j, j < i → nth xs j = 0 := by
  induction xs with
  | nil => exact absurd rfl h
  | cons x l ih =>
    by_cases hx : x = 0
    · have h1 : vw l ≠ 0 := by intro e; apply h; simp [vw, hx, e]
      obtain ⟨i, h2, h3, h4⟩ := ih h1
      refine ⟨i + 1, by simpa using h2, by rw [nth_cons_succ]; exact h3, fun j hj => ?_⟩
      cases j with
      | zero => rw [nth_cons_zero]; exact hx
      | succ j => rw [nth_cons_succ]; exact h4 j (by omega)
    · exact ⟨0, by simp, by rw [nth_cons_zero]; exact hx, fun j hj => by omega⟩
theorem gcd_pow_odd (k a m : Nat) : Nat.gcd (2 ^ k * a) (2 * m + 1) = Nat.gcd a (2 * m + 1) := by
  apply Nat.Coprime.gcd_mul_left_cancel
  apply Nat.Coprime.pow_left
  have : Nat.gcd 2 (2 * m + 1) = 1 := by
    rw [Nat.gcd_rec, show (2 * m + 1) % 2 = 1 by omega]
    rfl
  exact this
theorem gcd_odd_parts {a b i j m n : Nat} (ha : a = 2 ^ i * (2 * m + 1)) (hb : b = 2 ^ j * (2 * n + 1)) : Nat.gcd a b = 2 ^ min i j * Nat.gcd (2 * m + 1) (2 * n + 1) := by
  subst ha; subst hb
  rcases Nat.le_total i j with h | h
  · rw [Nat.min_eq_left h, show j = i + (j - i) by omega, Nat.pow_add, Nat.mul_assoc, Nat.gcd_mul_left]
    congr 1
    rw [Nat.gcd_comm, gcd_pow_odd, Nat.gcd_comm]
  · rw [Nat.min_eq_right h, show i = j + (i - j) by omega, Nat.pow_add, Nat.mul_assoc, Nat.gcd_mul_left]
    congr 1
    exact gcd_pow_odd _ _ _
/-- One step of the greatest common divisor of odd numbers of any size. -/
theorem gcd_take {x y n : Nat} (hy : y = 2 * n + 1) (h : y < x) : Nat.gcd (op (x - y)) y = Nat.gcd x y := by
  obtain ⟨m, e1, e2⟩ := op_spec (x := x - y) (by omega)
  have h1 : Nat.gcd (x - y) y = Nat.gcd x y := Nat.gcd_sub_self_left (by omega)
  rw [← h1]
  conv => rhs; rw [e2]
  rw [e1, hy, gcd_pow_odd]
end Kb
namespace Go.Proofs.YtffipjofefemiaaGreatDoor
open Go.RowKit Kb

/-- n words in block g from off on are the number x. -/
def Wd (w : World) (g off n c x : Nat) : Prop := ∃ xs, xs.length = n ∧ Seg w g off 86 .u64 xs ∧ LimW xs ∧ vw xs = x ∧ n ≤ 100000000 ∧ n ≤ c ∧ c ≤ maxLen
/-- The same, with no 0 at the end. -/
def Wt (w : World) (g off n c x : Nat) : Prop := ∃ xs, xs.length = n ∧ Seg w g off 86 .u64 xs ∧ LimW xs ∧ vw xs = x ∧ n ≤ 100000000 ∧ n ≤ c ∧ c ≤ maxLen ∧ TopW xs
section
variable {w w' : World} {g off n c x : Nat}
theorem Wt.wd (h : Wt w g off n c x) : Wd w g off n c x := by
  obtain ⟨xs, h1, h2, h3, h4, h5, h6, h7, _⟩ := h
  exact ⟨xs, h1, h2, h3, h4, h5, h6, h7⟩
theorem Seg.grown {t : TypeId} {k : IntKind} {xs : List Nat} {r : Option Nat} (h : Seg w g off t k xs) (hb : w.grownBy w' r) (hg : some g ≠ r) : Seg w' g off t k xs := by
  have hl := h.lt
  obtain ⟨cur, h1, h2, h3⟩ := h
  exact ⟨cur, (hb.block g hl hg).trans h1, h2, h3⟩
theorem Wd.grown {r : Option Nat} (h : Wd w g off n c x) (hb : w.grownBy w' r) (hg : some g ≠ r) : Wd w' g off n c x := by
  obtain ⟨xs, h1, h2, h3⟩ := h
  exact ⟨xs, h1, h2.grown hb hg, h3⟩
theorem Wt.grown {r : Option Nat} (h : Wt w g off n c x) (hb : w.grownBy w' r) (hg : some g ≠ r) : Wt w' g off n c x := by
  obtain ⟨xs, h1, h2, h3⟩ := h
  exact ⟨xs, h1, h2.grown hb hg, h3⟩
theorem Wt.below (h : Wt w g off n c x) (hb : Below w.heap.size w w') : Wt w' g off n c x := h.grown (r := none) (gb_of_below hb) (by simp)
theorem Wd.below (h : Wd w g off n c x) (hb : Below w.heap.size w w') : Wd w' g off n c x := h.grown (r := none) (gb_of_below hb) (by simp)
theorem Wt.qt (h : Wt w g off n c x) (hq : Qt w w') : Wt w' g off n c x := h.below (hq.below _)
theorem Wd.lt (h : Wd w g off n c x) : g < w.heap.size := by
  obtain ⟨xs, _, h2, _⟩ := h
  exact h2.lt
theorem Wt.lt (h : Wt w g off n c x) : g < w.heap.size := h.wd.lt
theorem Wt.zero_iff (h : Wt w g off n c x) : n = 0 ↔ x = 0 := by
  obtain ⟨xs, h1, h2, h3, h4, h5, h6, h7, h8⟩ := h
  subst h1; subst h4
  constructor
  · intro e; rw [List.eq_nil_of_length_eq_zero e]; rfl
  · intro e
    rcases Nat.eq_zero_or_pos xs.length with h | h
    · exact h
    · have := vw_ge (List.length_pos_iff.1 h) h8
      have h2 : 0 < 18446744073709551616 ^ (xs.length - 1) := Nat.pow_pos (by decide)
      omega
theorem Wt.len_le {g' off' m d y : Nat} (h : Wt w g off n c x) (k : Wt w' g' off' m d y) (hxy : y ≤ x) : m ≤ n := by
  obtain ⟨xs, h1, h2, h3, h4, h5, h6, h7, h8⟩ := h
  obtain ⟨ys, k1, k2, k3, k4, k5, k6, k7, k8⟩ := k
  subst h1; subst k1
  rcases Nat.lt_or_ge xs.length ys.length with hl | hl
  · have := vw_lt_of_length h3 k8 hl
    omega
  · exact hl
theorem Wt.word (h : Wt w g off 1 c x) : w.cell? ⟨g, off, none⟩ = some (.int .u64 x) ∧ x < 18446744073709551616 := by
  obtain ⟨xs, h1, h2, h3, h4, _⟩ := h
  obtain ⟨a, rfl⟩ := List.length_eq_one_iff.1 h1
  have hc := h2.cell (i := 0) (by simp)
  have e : vw [a] = a := by simp [vw]
  rw [e] at h4
  subst h4
  exact ⟨hc, h3 a (by simp)⟩
end

section
variable {w : World} {g off n c x : Nat}
theorem zeroBits_wd (h : Wd w g off n c x) (hx : x ≠ 0) (hT : Tab w) :
    Calls Tryz.prog 152 #[.slice (some ⟨g, off, none⟩) n c] w fun e w' => e = .returned (.int .i64 (tz x : Nat)) ∧ w = w' := by
  obtain ⟨xs, h1, h2, h3, h4, h5, h6, h7⟩ := h
  subst h4
  obtain ⟨i, i1, i2, i3⟩ := first_word hx
  obtain ⟨m, hm⟩ := zero_math h3 i3 i1 i2
  refine (zeroBits_any _ n c i xs w h2.sl h3 h1 h5 i3 (by omega) i2 hT).mono ?_
  rintro e w' ⟨rfl, rfl⟩
  refine ⟨?_, rfl⟩
  have := tz_pow (64 * i + Lib.ctz 64 (nth xs i)) m
  rw [← hm] at this
  rw [this]
theorem vw_drop_div {l : List Nat} (h : LimW l) {q : Nat} (hq : q ≤ l.length) : vw (l.drop q) = vw l / 18446744073709551616 ^ q := by
  have s := vw_split (l := l) q hq
  have lt := vw_lt (limW_take h q)
  rw [List.length_take, Nat.min_eq_left hq] at lt
  rw [s, Nat.add_mul_div_left _ _ (Nat.pow_pos (by decide)), Nat.div_eq_of_lt lt, Nat.zero_add]
theorem tz_div {xs : List Nat} (h3 : LimW xs) (hx : vw xs ≠ 0) : tz (vw xs) / 64 < xs.length ∧ vw (xs.drop (tz (vw xs) / 64)) / 2 ^ (tz (vw xs) % 64) = op (vw xs) := by
  obtain ⟨m, e1, e2⟩ := op_spec hx
  have hlt : tz (vw xs) / 64 < xs.length := by
    rcases Nat.lt_or_ge (tz (vw xs) / 64) xs.length with h | h
    · exact h
    · exfalso
      have l := vw_lt h3
      have p1 : 2 ^ (64 * xs.length) ≤ 2 ^ tz (vw xs) := Nat.pow_le_pow_right (by decide) (by omega)
      rw [← pow64] at p1
      have p2 : 2 ^ tz (vw xs) * 1 ≤ 2 ^ tz (vw xs) * (2 * m + 1) := Nat.mul_le_mul_left _ (by omega)
      rw [← e2] at p2
      omega
  refine ⟨hlt, ?_⟩
  have d := vw_drop_div h3 (q := tz (vw xs) / 64) (by omega)
  rw [d, pow64, Nat.div_div_eq_div_mul, ← Nat.pow_add, Nat.div_add_mod]
  rfl
theorem downBits_wd (h : Wd w g off n c x) (hx : x ≠ 0) :
    Calls Tryz.prog 153 #[.slice (some ⟨g, off, none⟩) n c, .int .i64 (tz x : Nat)] w fun e w' => ∃ off' n' c', e = .returned (.slice (some ⟨g, off', none⟩) n' c') ∧ Wt w' g off' n' c' (op x) ∧ w.grownBy w' (some g) := by
  obtain ⟨xs, h1, h2, h3, h4, h5, h6, h7⟩ := h
  subst h4; subst h1
  obtain ⟨t1, t2⟩ := tz_div h3 hx
  refine (downBits_any g off c (tz (vw xs)) xs w h2 h3 h5 h6 h7 t1).mono ?_
  rintro e w' ⟨o, m, rfl, o1, o2, o3, o4, o5, o6⟩
  rw [t2] at o4
  have hl : (o.take m).length = m := by rw [List.length_take, Nat.min_eq_left o1]
  have hm : m ≤ xs.length - tz (vw xs) / 64 := by
    rcases Nat.lt_or_ge (xs.length - tz (vw xs) / 64) m with h | h
    · exfalso
      have g1 := vw_ge (l := o.take m) (by intro e; rw [e] at hl; simp at hl; omega) o3
      rw [hl, o4, ← t2] at g1
      have g2 := vw_lt (limW_drop h3 (tz (vw xs) / 64))
      rw [List.length_drop] at g2
      have g3 := Nat.div_le_self (vw (xs.drop (tz (vw xs) / 64))) (2 ^ (tz (vw xs) % 64))
      have g4 : 18446744073709551616 ^ (xs.length - tz (vw xs) / 64) ≤ 18446744073709551616 ^ (m - 1) := Nat.pow_le_pow_right (by decide) (by omega)
      omega
    · exact h
  exact ⟨_, _, _, rfl, ⟨o.take m, hl, o5.take m, limW_take o2 m, o4, by omega, by omega, by omega, o3⟩, o6⟩
theorem trimWords_wd (h : Wd w g off n c x) :
    Calls Tryz.prog 156 #[.slice (some ⟨g, off, none⟩) n c] w fun e w' => ∃ m, e = .returned (.slice (some ⟨g, off, none⟩) m c) ∧ Wt w g off m c x ∧ w = w' := by
  obtain ⟨xs, h1, h2, h3, h4, h5, h6, h7⟩ := h
  refine (trimWords_any _ n c xs w h2.sl h1 h6 h7).mono ?_
  rintro e w' ⟨m, rfl, hm, ht, hv, rfl⟩
  exact ⟨m, rfl, ⟨xs.take m, by rw [List.length_take]; omega, h2.take m, limW_take h3 m, by rw [hv, h4], by omega, by omega, h7, ht⟩, rfl⟩
theorem lessWords_wt {g' off' m d y : Nat} (h : Wt w g off n c x) (k : Wt w g' off' m d y) :
    Calls Tryz.prog 154 #[.slice (some ⟨g, off, none⟩) n c, .slice (some ⟨g', off', none⟩) m d] w fun e w' => e = .returned (.bool (decide (x < y))) ∧ Qt w w' := by
  obtain ⟨xs, h1, h2, h3, h4, h5, h6, h7, h8⟩ := h
  obtain ⟨ys, k1, k2, k3, k4, k5, k6, k7, k8⟩ := k
  have := lessWords_any _ _ n m c d xs ys w h2.sl k2.sl h1 k1 h3 k3 h8 k8 h5 k5
  rwa [h4, k4] at this
theorem takeWords_wd {g' off' m d y : Nat} (h : Wt w g off n c x) (k : Wt w g' off' m d y) (hg : g ≠ g') (hxy : y ≤ x) :
    Calls Tryz.prog 155 #[.slice (some ⟨g, off, none⟩) n c, .slice (some ⟨g', off', none⟩) m d] w fun e w' => e = .returned (.tuple #[]) ∧ Wd w' g off n c (x - y) ∧ w.grownBy w' (some g) := by
  have hl := h.len_le k hxy
  obtain ⟨xs, h1, h2, h3, h4, h5, h6, h7, h8⟩ := h
  obtain ⟨ys, k1, k2, k3, k4, k5, k6, k7, k8⟩ := k
  subst h1; subst k1; subst h4; subst k4
  refine (takeWords_any g off c d (some ⟨g', off', none⟩) xs ys w h2 (fun w' hb => (k2.grown hb (by intro e; injection e with e; exact hg e.symm)).sl) h3 k3 h5 hl hxy).mono ?_
  rintro e w' ⟨rfl, o, o1, o2, o3, o4, o5⟩
  exact ⟨rfl, ⟨o, o1, o4, o2, o3, h5, h6, h7⟩, o5⟩
theorem upBits_wd {by_ N : Nat} (h : Wd w g off n c x) (hby : by_ ≤ 6400000000) (hv : 2 ^ by_ * x < 18446744073709551616 ^ N) (hN : N ≤ 100000000) :
    Calls Tryz.prog 157 #[.slice (some ⟨g, off, none⟩) n c, .int .i64 by_] w fun e w' => ∃ g' m d, e = .returned (.slice (some ⟨g', 0, none⟩) m d) ∧ Wt w' g' 0 m d (2 ^ by_ * x) ∧ Below w.heap.size w w' := by
  obtain ⟨xs, h1, h2, h3, h4, h5, h6, h7⟩ := h
  subst h1; subst h4
  refine (upBits_any _ c by_ xs w h2.sl h3 h5 hby).mono ?_
  rintro e w' ⟨o, m, rfl, o1, o2, o3, o4, o5, o6⟩
  have e : vw (o.take m) = 2 ^ by_ * vw xs := by
    rw [o4, pow64, ← Nat.mul_assoc, ← Nat.pow_add, Nat.div_add_mod]
  have hl : (o.take m).length = m := by rw [List.length_take, Nat.min_eq_left o1]
  have seg : Seg w' w.heap.size 0 86 .u64 o := ⟨rowOf .u64 o, o5, by simp [rowOf], fun i hi => by simp [rowOf, hi, nth_eq hi]⟩
  have hm : m ≤ N := by
    rcases Nat.lt_or_ge N m with h | h
    · exfalso
      have g1 := vw_ge (l := o.take m) (by intro e; rw [e] at hl; simp at hl; omega) o3
      rw [hl, e] at g1
      have g4 : 18446744073709551616 ^ N ≤ 18446744073709551616 ^ (m - 1) := Nat.pow_le_pow_right (by decide) (by omega)
      omega
    · exact h
  have hml : m ≤ by_ / 64 + xs.length + 1 := by
    rcases Nat.lt_or_ge (by_ / 64 + xs.length + 1) m with h | h
    · exfalso
      have g1 := vw_ge (l := o.take m) (by intro e; rw [e] at hl; simp at hl; omega) o3
      rw [hl, o4] at g1
      have g2 := vw_lt h3
      have g4 : 18446744073709551616 ^ (by_ / 64 + xs.length + 1) ≤ 18446744073709551616 ^ (m - 1) := Nat.pow_le_pow_right (by decide) (by omega)
      have g5 : 2 ^ (by_ % 64) ≤ 18446744073709551616 := by
        have : 2 ^ (by_ % 64) ≤ 2 ^ 64 := Nat.pow_le_pow_right (by decide) (by omega)
        exact this
      have g6 : 2 ^ (by_ % 64) * vw xs < 18446744073709551616 * 18446744073709551616 ^ xs.length := Nat.mul_lt_mul_of_le_of_lt g5 g2 (by decide)
      have g7 : 18446744073709551616 ^ (by_ / 64) * (2 ^ (by_ % 64) * vw xs) < 18446744073709551616 ^ (by_ / 64) * (18446744073709551616 * 18446744073709551616 ^ xs.length) := Nat.mul_lt_mul_of_pos_left g6 (Nat.pow_pos (by decide))
      have g8 : 18446744073709551616 ^ (by_ / 64 + xs.length + 1) = 18446744073709551616 ^ (by_ / 64) * (18446744073709551616 * 18446744073709551616 ^ xs.length) := by
        rw [Nat.pow_succ, Nat.pow_add, Nat.mul_assoc, Nat.mul_comm (18446744073709551616 ^ xs.length)]
      rw [g8] at g4
      exact absurd (Nat.lt_of_le_of_lt (Nat.le_trans g4 g1) g7) (Nat.lt_irrefl _)
    · exact h
  exact ⟨_, _, _, rfl, ⟨o.take m, hl, seg.take m, limW_take o2 m, e, by omega, hml, by unfold maxLen; omega, o3⟩, o6⟩
end
end Go.Proofs.YtffipjofefemiaaGreatDoor

namespace Go.Proofs.YtffipjofefemiaaGreatDoor
open Go.RowKit Kb

/-- The number that a slice of words reads as. -/
def rd (v : Value) (w : World) : Nat :=
  match v with
  | .slice (some a) n _ => vw ((List.range n).map fun i => match w.cell? (a.add i) with | some (.int _ z) => z.toNat | _ => 0)
  | _ => 0
theorem Wt.rd {w : World} {g off n c x : Nat} (h : Wt w g off n c x) : rd (.slice (some ⟨g, off, none⟩) n c) w = x := by
  obtain ⟨xs, h1, h2, h3, h4, _⟩ := h
  have e : ((List.range n).map fun i => match w.cell? ((⟨g, off, none⟩ : Addr).add i) with | some (.int _ z) => z.toNat | _ => 0) = xs := by
    apply List.ext_getElem
    · simp [h1]
    · intro i hi hj
      have hc := h2.cell hj
      simp only [List.getElem_map, List.getElem_range, Addr.add_lit, hc, Int.toNat_natCast]
      exact nth_eq hj
  show vw _ = x
  rw [e, h4]
theorem wd_one (w : World) (v : Nat) (hv : v < 18446744073709551616) : Wd (w.alloc (.cells #[.int .u64 (v : Int)] 86)).drew w.heap.size 0 1 1 v := by
  refine ⟨[v], rfl, ⟨#[.int .u64 (v : Int)], heap_alloc_new w _, by simp, fun i hi => ?_⟩, fun x hx => by rw [List.mem_singleton] at hx; omega, by simp [vw], by omega, by omega, by unfold maxLen; omega⟩
  have : i = 0 := by simpa using hi
  subst this
  simp [nth_cons_zero]
theorem below_gb {B g : Nat} {w0 w w' : World} (h : Below B w0 w) (hg : w.grownBy w' (some g)) (hB : B ≤ g) (hl : g < w.heap.size) : Below B w0 w' :=
  h.grown hg (Nat.le_trans hB (Nat.le_of_lt hl)) (fun k hk => by injection hk with hk; omega)
theorem tz_lt {w : World} {g off n c x : Nat} (h : Wd w g off n c x) (hx : x ≠ 0) : tz x < 64 * n ∧ n ≤ 100000000 ∧ x < 18446744073709551616 ^ n := by
  obtain ⟨xs, h1, h2, h3, h4, h5, _⟩ := h
  subst h1; subst h4
  obtain ⟨t1, _⟩ := tz_div h3 hx
  exact ⟨by omega, h5, vw_lt h3⟩
theorem op_ne {x : Nat} (h : x ≠ 0) : op x ≠ 0 := by obtain ⟨m, e, _⟩ := op_spec h; omega
/-- What stands at the head of the loop. -/
structure Gs (N G x y : Nat) : Prop where
  x1 : ∃ m, x = 2 * m + 1
  y1 : ∃ n, y = 2 * n + 1
  g : Nat.gcd x y = G
  lx : x < 18446744073709551616 ^ N
  ly : y < 18446744073709551616 ^ N
theorem Gs.step {N G x y : Nat} (h : Gs N G x y) (hlt : y < x) : Gs N G (op (x - y)) y := by
  obtain ⟨n, hn⟩ := h.y1
  obtain ⟨m, e, _⟩ := op_spec (x := x - y) (by omega)
  exact ⟨⟨m, e⟩, h.y1, (gcd_take hn hlt).trans h.g, Nat.lt_of_le_of_lt (op_le _) (by have := h.lx; omega), h.ly⟩
theorem Gs.swap {N G x y : Nat} (h : Gs N G x y) : Gs N G y x := ⟨h.y1, h.x1, by rw [Nat.gcd_comm]; exact h.g, h.ly, h.lx⟩
theorem Gs.pos {N G x y : Nat} (h : Gs N G x y) : x ≠ 0 ∧ y ≠ 0 := by
  obtain ⟨m, hm⟩ := h.x1
  obtain ⟨n, hn⟩ := h.y1
  omega

theorem Gs.step_lt {N G x y : Nat} (h : Gs N G x y) (hlt : y < x) : op (x - y) + y < x + y := by
  have := op_le (x - y); have := h.pos; omega
theorem Gs.start {a b N : Nat} (ha : a ≠ 0) (hb : b ≠ 0) (la : a < 18446744073709551616 ^ N) (lb : b < 18446744073709551616 ^ N) : Gs N (Nat.gcd (op a) (op b)) (op a) (op b) ∧ 2 ^ min (tz a) (tz b) * Nat.gcd (op a) (op b) = Nat.gcd a b := by
  obtain ⟨m, e1, e2⟩ := op_spec ha
  obtain ⟨n, e3, e4⟩ := op_spec hb
  refine ⟨⟨⟨m, e1⟩, ⟨n, e3⟩, rfl, Nat.lt_of_le_of_lt (op_le _) la, Nat.lt_of_le_of_lt (op_le _) lb⟩, ?_⟩
  rw [e1, e3]
  exact (gcd_odd_parts e2 e4).symm
theorem gcd_lt {a b N : Nat} (ha : a ≠ 0) (la : a < 18446744073709551616 ^ N) : Nat.gcd a b < 18446744073709551616 ^ N :=
  Nat.lt_of_le_of_lt (Nat.gcd_le_left _ (Nat.pos_of_ne_zero ha)) la
/-- One number of a pair of blocks at the head of the loop. -/
def Loop (B N G : Nat) (w0 : World) (x y : Value) (w : World) : Prop :=
  ∃ gx ox nx cx a gy oy ny cy b, x = .slice (some ⟨gx, ox, none⟩) nx cx ∧ y = .slice (some ⟨gy, oy, none⟩) ny cy ∧ Wt w gx ox nx cx a ∧ Wt w gy oy ny cy b ∧ gx ≠ gy ∧ B ≤ gx ∧ B ≤ gy ∧ Hid (Gs N G a b) ∧ Tb w ∧ Below B w0 w
theorem bool_eq {b c : Bool} (h : b = c) : Value.bool b = Value.bool c := by rw [h]

set_option maxRecDepth 100000 in
set_option maxHeartbeats 8000000 in
theorem binary_any (B gx gy nx cx a ny cy b N : Nat) (w : World) (hx : Wd w gx 0 nx cx a) (hy : Wd w gy 0 ny cy b) (ha : a ≠ 0) (hb : b ≠ 0) (hne : gx ≠ gy) (hBx : B ≤ gx) (hBy : B ≤ gy) (hN1 : nx ≤ N) (hN2 : ny ≤ N) (hN : N ≤ 100000000) (hT : Tb w) (hxt : 0 < B) :
    Calls Tryz.prog 130 #[.slice (some ⟨gx, 0, none⟩) nx cx, .slice (some ⟨gy, 0, none⟩) ny cy] w fun e w' => ∃ g m d, e = .returned (.slice (some ⟨g, 0, none⟩) m d) ∧ Wt w' g 0 m d (Nat.gcd a b) ∧ Below B w w' := by
  obtain ⟨t1, t2, t3⟩ := tz_lt hx ha
  obtain ⟨t4, t5, t6⟩ := tz_lt hy hb
  have la : a < 18446744073709551616 ^ N := Nat.lt_of_lt_of_le t3 (Nat.pow_le_pow_right (by decide) hN1)
  have lb : b < 18446744073709551616 ^ N := Nat.lt_of_lt_of_le t6 (Nat.pow_le_pow_right (by decide) hN2)
  obtain ⟨s1, s2⟩ := Gs.start ha hb la lb
  have hGl := gcd_lt (b := b) ha la
  rw [← s2] at hGl ⊢
  obtain ⟨cm, hcmE⟩ : ∃ cm, cm = min (tz a) (tz b) := ⟨_, rfl⟩
  rw [← hcmE] at hGl ⊢
  have hmin : (min ((tz a : Nat) : Int) ((tz b : Nat) : Int)) = (cm : Int) := by omega
  have hcm : cm ≤ 6400000000 := by omega
  have Hcm := hid hcmE
  have Hmin := hid hmin
  clear hcmE hmin
  obtain ⟨G, hG⟩ : ∃ G, G = Nat.gcd (op a) (op b) := ⟨_, rfl⟩
  rw [← hG] at hGl s1 ⊢
  have S1 := hid s1
  have HGl := hid hGl
  have Ha := hid ha
  have Hb := hid hb
  have lx := hx.lt
  have ly := hy.lt
  have hbx : ((tz a : Nat) : Int) ≤ 6400000000 := by omega
  have hby : ((tz b : Nat) : Int) ≤ 6400000000 := by omega
  have HN := hid hN
  clear t3 t6 la lb s1 s2 hG hGl ha hb hN
  go_enter Tryz.func130, Tryz.ntmps130
  go_wp2_with fail
  refine (zeroBits_wd hx Ha.out hT.1).mono ?_
  rintro e w1 ⟨rfl, rfl⟩
  go_wp2_with fail
  refine (zeroBits_wd hy Hb.out hT.1).mono ?_
  rintro e w1 ⟨rfl, rfl⟩
  go_wp2_with fail
  refine (zeroBits_wd hx Ha.out hT.1).mono ?_
  rintro e w1 ⟨rfl, rfl⟩
  go_wp2_with fail
  refine (downBits_wd hx Ha.out).mono ?_
  rintro e w2 ⟨ox, nx, cx, rfl, hx2, hg2⟩
  have hy2 := hy.grown hg2 (by intro e; injection e with e; omega)
  have T2 := hT.grown hg2 (by omega)
  go_wp2_with fail
  refine (zeroBits_wd hy2 Hb.out T2.1).mono ?_
  rintro e w3 ⟨rfl, rfl⟩
  go_wp2_with fail
  refine (downBits_wd hy2 Hb.out).mono ?_
  rintro e w4 ⟨oy, ny, cy, rfl, hy4, hg4⟩
  have hx4 := hx2.grown hg4 (by intro e; injection e with e; omega)
  have T4 := T2.grown hg4 (by omega)
  have hB4 := hid (below_gb (below_gb (Below.refl B w) hg2 hBx lx) hg4 hBy hy2.lt)
  clear hx hy hT hx2 hy2 T2 hg2 hg4 lx ly hbx hby t1 t2 t4 t5
  go_wp2_with fail
  first | rw [Hmin.out] | rw [← Hcm.out]
  clear Hmin Hcm
  go_loopw [0, 1] (fun xv yv wr => Loop B N G w xv yv wr) (fun xv yv wr => rd xv wr + rd yv wr)
  case atStart => exact ⟨_, _, _, _, _, _, _, _, _, _, rfl, rfl, hx4, hy4, hne, hBx, hBy, S1, T4, hB4.out⟩
  case round =>
    obtain ⟨gx, ox, nx, cx, x, gy, oy, ny, cy, y, rfl, rfl, hx, hy, hne, hBx, hBy, S, T, hB⟩ := hrel
    clear hx4 hy4 T4 hB4 S1
    have HB := hid hB
    have rx := hx.rd
    have ry := hy.rd
    have Hrx := hid rx
    have Hry := hid ry
    clear hB rx ry
    rcases (show 1 < nx ∨ (nx ≤ 1 ∧ 1 < ny) ∨ (nx ≤ 1 ∧ ny ≤ 1) by omega) with h1 | ⟨h1, h2⟩ | ⟨h1, h2⟩
    · go_wp2_with fail
      refine (lessWords_wt hx hy).mono ?_
      rintro e w5 ⟨rfl, hq⟩
      rcases Nat.lt_trichotomy x y with hlt | heq | hlt
      · rw [decide_eq_true hlt]
        have Hle := hid (Nat.le_of_lt hlt)
        have hX1 := hy.qt hq
        have hY1 := hx.qt hq
        have T1 := T.below (hq.below _)
        have hB1 := HB.out.trans (hq.below B)
        have HB1 := hid hB1
        clear hB1
        go_wp2_with fail
        refine (takeWords_wd hX1 hY1 (fun e => hne e.symm) Hle.out).mono ?_
        rintro e w6 ⟨rfl, hX2, hg6⟩
        have hY2 := hY1.grown hg6 (by intro e; injection e with e; exact hne e)
        have T2 := T1.grown hg6 (by omega)
        have HB2 := hid (below_gb HB1.out hg6 hBy hX1.lt)
        go_wp2_with fail
        refine (trimWords_wd hX2).mono ?_
        rintro e w7 ⟨m, rfl, hX3, rfl⟩
        have Hd := hid (show y - x ≠ 0 by omega)
        have hm0 : 0 < m := by
          rcases Nat.eq_zero_or_pos m with h | h
          · exact absurd (hX3.zero_iff.1 h) Hd.out
          · exact h
        have hmB : ((m : Int) == 0) = false := by rw [beq_eq_false_iff_ne]; omega
        have Hm := hid ((S.out.swap).step_lt (show x < y by omega))
        have Hs := hid ((S.out.swap).step (show x < y by omega))
        clear hX1 hY1 T1 hX2 hg6 HB1
        go_wp2_with fail
        refine (zeroBits_wd hX3.wd Hd.out T2.1).mono ?_
        rintro e w8 ⟨rfl, rfl⟩
        go_wp2_with fail
        refine (downBits_wd hX3.wd Hd.out).mono ?_
        rintro e w9 ⟨o', n', c', rfl, hX4, hg9⟩
        have hY4 := hY2.grown hg9 (by intro e; injection e with e; exact hne e)
        have T4 := T2.grown hg9 (by omega)
        have HB4 := hid (below_gb HB2.out hg9 hBy hX3.lt)
        clear hX3 hY2 T2 hg9 HB2
        go_wp2_with fail
        go_roundw
        case rel => exact ⟨_, _, _, _, _, _, _, _, _, _, rfl, rfl, hX4, hY4, (fun e => hne e.symm), hBy, hBx, Hs, T4, HB4.out⟩
        case measure => rw [hX4.rd, hY4.rd, Hrx.out, Hry.out]; have := Hm.out; omega
      · rw [decide_eq_false (show ¬ x < y by omega)]
        have Hle := hid (show y ≤ x by omega)
        have hX1 := hx.qt hq
        have hY1 := hy.qt hq
        have T1 := T.below (hq.below _)
        have hB1 := HB.out.trans (hq.below B)
        have HB1 := hid hB1
        clear hB1
        go_wp2_with fail
        refine (takeWords_wd hX1 hY1 hne Hle.out).mono ?_
        rintro e w6 ⟨rfl, hX2, hg6⟩
        have hY2 := hY1.grown hg6 (by intro e; injection e with e; exact hne e.symm)
        have T2 := T1.grown hg6 (by omega)
        have HB2 := hid (below_gb HB1.out hg6 hBx hX1.lt)
        go_wp2_with fail
        refine (trimWords_wd hX2).mono ?_
        rintro e w7 ⟨m, rfl, hX3, rfl⟩
        have Hd := hid (show x - y = 0 by omega)
        have hm0 : m = 0 := hX3.zero_iff.2 Hd.out
        have hmB : ((m : Int) == 0) = true := by rw [hm0]; rfl
        have Hm0 := hid hm0
        have HG := hid (show y = G by have := S.out.g; rw [heq, Nat.gcd_self] at this; exact this)
        clear hm0 hX1 hY1 T1 hX2 hg6 HB1 heq
        go_wp2_with fail
        refine (upBits_wd hY2.wd hcm (N := N) (by rw [HG.out]; exact HGl.out) HN.out).mono ?_
        rintro e w8 ⟨g', m', d', rfl, h8, hb8⟩
        have hE := HB2.out.trans (hb8.mono (Nat.le_trans hBy (Nat.le_of_lt hY2.lt)))
        go_wp2_with fail
        go_ret
        exact ⟨g', m', d', rfl, by rw [← HG.out]; exact h8, hE⟩
      · rw [decide_eq_false (show ¬ x < y by omega)]
        have Hle := hid (Nat.le_of_lt hlt)
        have hX1 := hx.qt hq
        have hY1 := hy.qt hq
        have T1 := T.below (hq.below _)
        have hB1 := HB.out.trans (hq.below B)
        have HB1 := hid hB1
        clear hB1
        go_wp2_with fail
        refine (takeWords_wd hX1 hY1 hne Hle.out).mono ?_
        rintro e w6 ⟨rfl, hX2, hg6⟩
        have hY2 := hY1.grown hg6 (by intro e; injection e with e; exact hne e.symm)
        have T2 := T1.grown hg6 (by omega)
        have HB2 := hid (below_gb HB1.out hg6 hBx hX1.lt)
        go_wp2_with fail
        refine (trimWords_wd hX2).mono ?_
        rintro e w7 ⟨m, rfl, hX3, rfl⟩
        have Hd := hid (show x - y ≠ 0 by omega)
        have hm0 : 0 < m := by
          rcases Nat.eq_zero_or_pos m with h | h
          · exact absurd (hX3.zero_iff.1 h) Hd.out
          · exact h
        have hmB : ((m : Int) == 0) = false := by rw [beq_eq_false_iff_ne]; omega
        have Hm := hid ((S.out).step_lt (show y < x by omega))
        have Hs := hid ((S.out).step (show y < x by omega))
        clear hX1 hY1 T1 hX2 hg6 HB1
        go_wp2_with fail
        refine (zeroBits_wd hX3.wd Hd.out T2.1).mono ?_
        rintro e w8 ⟨rfl, rfl⟩
        go_wp2_with fail
        refine (downBits_wd hX3.wd Hd.out).mono ?_
        rintro e w9 ⟨o', n', c', rfl, hX4, hg9⟩
        have hY4 := hY2.grown hg9 (by intro e; injection e with e; exact hne e.symm)
        have T4 := T2.grown hg9 (by omega)
        have HB4 := hid (below_gb HB2.out hg9 hBx hX3.lt)
        clear hX3 hY2 T2 hg9 HB2
        go_wp2_with fail
        go_roundw
        case rel => exact ⟨_, _, _, _, _, _, _, _, _, _, rfl, rfl, hX4, hY4, hne, hBx, hBy, Hs, T4, HB4.out⟩
        case measure => rw [hX4.rd, hY4.rd, Hrx.out, Hry.out]; have := Hm.out; omega
    · go_wp2_with fail
      refine (lessWords_wt hx hy).mono ?_
      rintro e w5 ⟨rfl, hq⟩
      rcases Nat.lt_trichotomy x y with hlt | heq | hlt
      · rw [decide_eq_true hlt]
        have Hle := hid (Nat.le_of_lt hlt)
        have hX1 := hy.qt hq
        have hY1 := hx.qt hq
        have T1 := T.below (hq.below _)
        have hB1 := HB.out.trans (hq.below B)
        have HB1 := hid hB1
        clear hB1
        go_wp2_with fail
        refine (takeWords_wd hX1 hY1 (fun e => hne e.symm) Hle.out).mono ?_
        rintro e w6 ⟨rfl, hX2, hg6⟩
        have hY2 := hY1.grown hg6 (by intro e; injection e with e; exact hne e)
        have T2 := T1.grown hg6 (by omega)
        have HB2 := hid (below_gb HB1.out hg6 hBy hX1.lt)
        go_wp2_with fail
        refine (trimWords_wd hX2).mono ?_
        rintro e w7 ⟨m, rfl, hX3, rfl⟩
        have Hd := hid (show y - x ≠ 0 by omega)
        have hm0 : 0 < m := by
          rcases Nat.eq_zero_or_pos m with h | h
          · exact absurd (hX3.zero_iff.1 h) Hd.out
          · exact h
        have hmB : ((m : Int) == 0) = false := by rw [beq_eq_false_iff_ne]; omega
        have Hm := hid ((S.out.swap).step_lt (show x < y by omega))
        have Hs := hid ((S.out.swap).step (show x < y by omega))
        clear hX1 hY1 T1 hX2 hg6 HB1
        go_wp2_with fail
        refine (zeroBits_wd hX3.wd Hd.out T2.1).mono ?_
        rintro e w8 ⟨rfl, rfl⟩
        go_wp2_with fail
        refine (downBits_wd hX3.wd Hd.out).mono ?_
        rintro e w9 ⟨o', n', c', rfl, hX4, hg9⟩
        have hY4 := hY2.grown hg9 (by intro e; injection e with e; exact hne e)
        have T4 := T2.grown hg9 (by omega)
        have HB4 := hid (below_gb HB2.out hg9 hBy hX3.lt)
        clear hX3 hY2 T2 hg9 HB2
        go_wp2_with fail
        go_roundw
        case rel => exact ⟨_, _, _, _, _, _, _, _, _, _, rfl, rfl, hX4, hY4, (fun e => hne e.symm), hBy, hBx, Hs, T4, HB4.out⟩
        case measure => rw [hX4.rd, hY4.rd, Hrx.out, Hry.out]; have := Hm.out; omega
      · rw [decide_eq_false (show ¬ x < y by omega)]
        have Hle := hid (show y ≤ x by omega)
        have hX1 := hx.qt hq
        have hY1 := hy.qt hq
        have T1 := T.below (hq.below _)
        have hB1 := HB.out.trans (hq.below B)
        have HB1 := hid hB1
        clear hB1
        go_wp2_with fail
        refine (takeWords_wd hX1 hY1 hne Hle.out).mono ?_
        rintro e w6 ⟨rfl, hX2, hg6⟩
        have hY2 := hY1.grown hg6 (by intro e; injection e with e; exact hne e.symm)
        have T2 := T1.grown hg6 (by omega)
        have HB2 := hid (below_gb HB1.out hg6 hBx hX1.lt)
        go_wp2_with fail
        refine (trimWords_wd hX2).mono ?_
        rintro e w7 ⟨m, rfl, hX3, rfl⟩
        have Hd := hid (show x - y = 0 by omega)
        have hm0 : m = 0 := hX3.zero_iff.2 Hd.out
        have hmB : ((m : Int) == 0) = true := by rw [hm0]; rfl
        have Hm0 := hid hm0
        have HG := hid (show y = G by have := S.out.g; rw [heq, Nat.gcd_self] at this; exact this)
        clear hm0 hX1 hY1 T1 hX2 hg6 HB1 heq
        go_wp2_with fail
        refine (upBits_wd hY2.wd hcm (N := N) (by rw [HG.out]; exact HGl.out) HN.out).mono ?_
        rintro e w8 ⟨g', m', d', rfl, h8, hb8⟩
        have hE := HB2.out.trans (hb8.mono (Nat.le_trans hBy (Nat.le_of_lt hY2.lt)))
        go_wp2_with fail
        go_ret
        exact ⟨g', m', d', rfl, by rw [← HG.out]; exact h8, hE⟩
      · rw [decide_eq_false (show ¬ x < y by omega)]
        have Hle := hid (Nat.le_of_lt hlt)
        have hX1 := hx.qt hq
        have hY1 := hy.qt hq
        have T1 := T.below (hq.below _)
        have hB1 := HB.out.trans (hq.below B)
        have HB1 := hid hB1
        clear hB1
        go_wp2_with fail
        refine (takeWords_wd hX1 hY1 hne Hle.out).mono ?_
        rintro e w6 ⟨rfl, hX2, hg6⟩
        have hY2 := hY1.grown hg6 (by intro e; injection e with e; exact hne e.symm)
        have T2 := T1.grown hg6 (by omega)
        have HB2 := hid (below_gb HB1.out hg6 hBx hX1.lt)
        go_wp2_with fail
        refine (trimWords_wd hX2).mono ?_
        rintro e w7 ⟨m, rfl, hX3, rfl⟩
        have Hd := hid (show x - y ≠ 0 by omega)
        have hm0 : 0 < m := by
          rcases Nat.eq_zero_or_pos m with h | h
          · exact absurd (hX3.zero_iff.1 h) Hd.out
          · exact h
        have hmB : ((m : Int) == 0) = false := by rw [beq_eq_false_iff_ne]; omega
        have Hm := hid ((S.out).step_lt (show y < x by omega))
        have Hs := hid ((S.out).step (show y < x by omega))
        clear hX1 hY1 T1 hX2 hg6 HB1
        go_wp2_with fail
        refine (zeroBits_wd hX3.wd Hd.out T2.1).mono ?_
        rintro e w8 ⟨rfl, rfl⟩
        go_wp2_with fail
        refine (downBits_wd hX3.wd Hd.out).mono ?_
        rintro e w9 ⟨o', n', c', rfl, hX4, hg9⟩
        have hY4 := hY2.grown hg9 (by intro e; injection e with e; exact hne e.symm)
        have T4 := T2.grown hg9 (by omega)
        have HB4 := hid (below_gb HB2.out hg9 hBx hX3.lt)
        clear hX3 hY2 T2 hg9 HB2
        go_wp2_with fail
        go_roundw
        case rel => exact ⟨_, _, _, _, _, _, _, _, _, _, rfl, rfl, hX4, hY4, hne, hBx, hBy, Hs, T4, HB4.out⟩
        case measure => rw [hX4.rd, hY4.rd, Hrx.out, Hry.out]; have := Hm.out; omega
    · have hp := S.out.pos
      have z1 := hx.zero_iff
      have z2 := hy.zero_iff
      have e1 : nx = 1 := by
        rcases Nat.eq_zero_or_pos nx with h | h
        · exact absurd (z1.1 h) hp.1
        · omega
      have e2 : ny = 1 := by
        rcases Nat.eq_zero_or_pos ny with h | h
        · exact absurd (z2.1 h) hp.2
        · omega
      subst e1; subst e2
      obtain ⟨cx0, lx⟩ := hx.word
      obtain ⟨cy0, ly⟩ := hy.word
      have gx0 := hx.lt
      have gy0 := hy.lt
      have hvl : Nat.gcd x y < 18446744073709551616 := Nat.lt_of_le_of_lt (Nat.gcd_le_left _ (Nat.pos_of_ne_zero hp.1)) lx
      have hal : Below wr.heap.size wr (wr.alloc (.cells #[.int .u64 (Nat.gcd x y : Nat)] 86)).drew := ((Below.refl _ _).alloc (Nat.le_refl _) _).drew
      have cxa := (hal.cell (p := ⟨gx, ox, none⟩) gx0).trans cx0
      have cya := (hal.cell (p := ⟨gy, oy, none⟩) gy0).trans cy0
      have ca := wd_one wr (Nat.gcd x y) hvl
      have T5 : Tab wr.drew := T.1
      have hB5 := hid HB.out.drew
      have Hal := hid (HB.out.trans (hal.mono (Nat.le_trans hBx (Nat.le_of_lt gx0))))
      have Hg := hid S.out.g
      have Hx := S.out.x1
      have Hy := S.out.y1
      obtain ⟨m, hm⟩ := Hx
      obtain ⟨n, hn⟩ := Hy
      have Hm := hid hm
      have Hn := hid hn
      have hla : wr.heap.size < (wr.alloc (.cells #[.int .u64 (Nat.gcd x y : Nat)] 86)).drew.heap.size := by show wr.heap.size < (wr.alloc (.cells #[.int .u64 (Nat.gcd x y : Nat)] 86)).heap.size; simp
      have Hcx := hid cx0
      clear hal z1 z2 hp hm hn hvl
      go_wp2
      go_region_held3 (fun w' => w'.cell? ⟨gx, ox, none⟩ = some (.int .u64 x) ∧ w'.cell? ⟨gy, oy, none⟩ = some (.int .u64 y)) (first | exact ⟨cx0, cy0⟩ | exact ⟨cxa, cya⟩ | exact ⟨cxb, cyb⟩) (first
        | (go_at_call 158; with_reducible refine (wordDivisor_any x y m n wr.drew lx ly Hm.out Hn.out T5).mono ?_; rintro e w5 ⟨rfl, rfl⟩)
        | (go_at_call 157; with_reducible refine (upBits_wd ca hcm (N := N) (by rw [Hg.out]; exact HGl.out) HN.out).mono ?_; rintro e w6 ⟨g', m', d', rfl, hr6, hb6⟩; have cxb := (hb6.cell (p := ⟨gx, ox, none⟩) (Nat.lt_trans gx0 hla)).trans cxa; have cyb := (hb6.cell (p := ⟨gy, oy, none⟩) (Nat.lt_trans gy0 hla)).trans cya))
      have hE := Hal.out.trans (hb6.mono (Nat.le_trans (Nat.le_trans hBx (Nat.le_of_lt gx0)) (Nat.le_of_lt hla)))
      go_wp2
      go_ret
      exact ⟨g', m', d', rfl, by rw [← Hg.out]; exact hr6, hE⟩

end Go.Proofs.YtffipjofefemiaaGreatDoor

namespace Go.Proofs.YtffipjofefemiaaGreatDoor
open Go.RowKit Kb

theorem wd_row {w : World} {g n x : Nat} {o : List Nat} (h : Row w g 86 .u64 o) (hl : o.length = n) (hL : LimW o) (hx : vw o = x) (hn : n ≤ 100000000) : Wd w g 0 n n x :=
  ⟨o, hl, ⟨rowOf .u64 o, h, by simp [rowOf], fun i hi => by simp [rowOf, hi, nth_eq hi]⟩, hL, hx, hn, Nat.le_refl _, by unfold maxLen; omega⟩
theorem unpack_wt {w : World} {g m d x : Nat} (h : Wt w g 0 m d x) :
    Calls Tryz.prog 129 #[.slice (some ⟨g, 0, none⟩) m d] w fun e w' => ∃ v, e = .returned v ∧ Nm w' v x ∧ Below w.heap.size w w' := by
  obtain ⟨xs, h1, h2, h3, h4, h5, h6⟩ := h
  subst h1; subst h4
  exact unpack_any _ d xs w h2.sl h3 h5
theorem pack_nm {w : World} {A : Option Addr} {c a : Nat} (h : Nm w (.slice A (dig a).length c) a) (hl : (dig a).length ≤ 100000000) :
    Calls Tryz.prog 131 #[.slice A (dig a).length c] w fun e w' => ∃ n, e = .returned (.slice (some ⟨w.heap.size, 0, none⟩) n n) ∧ n ≤ 30000000 ∧ Wd w' w.heap.size 0 n n a ∧ Below w.heap.size w w' := by
  obtain ⟨A', c', e, h1, _⟩ := h
  injection e with e1 e2 e3
  subst e1
  refine (pack_any A c (dig a) w h1 (lim_dig a) (by omega)).mono ?_
  rintro e w' ⟨o, rfl, l, L, V, R, hb⟩
  exact ⟨_, rfl, by omega, wd_row R l L (by rw [V, val_dig]) (by omega), hb⟩
theorem len_zero {a : Nat} (h : a = 0) : (((dig a).length : Int) == 0) = true := by subst h; rw [dig_zero]; rfl
theorem len_pos {a : Nat} (h : a ≠ 0) : (((dig a).length : Int) == 0) = false := by
  rw [beq_eq_false_iff_ne]
  intro e
  exact h (dig_nil_iff.1 (List.eq_nil_of_length_eq_zero (by omega)))
theorem dig_le {a b : Nat} (h : a ≤ b) : (dig a).length ≤ (dig b).length := by
  apply dig_length_le
  have := val_lt (lim_dig b)
  rw [val_dig] at this
  omega

theorem gcd_mod (x y : Nat) : Nat.gcd (x % y) y = Nat.gcd x y := by rw [Nat.gcd_comm x y, Nat.gcd_rec y x]
theorem ne_of_len {a b : Nat} (h : (dig b).length ≤ (dig a).length) (hb : b ≠ 0) : a ≠ 0 := fun e => by
  subst e
  rw [dig_zero] at h
  exact hb (dig_nil_iff.1 (List.eq_nil_of_length_eq_zero (by simpa using h)))

set_option maxRecDepth 100000 in
set_option maxHeartbeats 8000000 in
theorem CD_any (a b : Nat) (ha : (dig a).length ≤ 100000000) (hb : (dig b).length ≤ 100000000) : CD a b := by
  intro v u w h k hT
  obtain ⟨A, c, rfl, h'⟩ : ∃ A c, v = .slice A (dig a).length c ∧ Nm w (.slice A (dig a).length c) a := by
    obtain ⟨A, c, rfl, hr⟩ := h; exact ⟨A, c, rfl, A, c, rfl, hr⟩
  obtain ⟨B, d, rfl, k'⟩ : ∃ A c, u = .slice A (dig b).length c ∧ Nm w (.slice A (dig b).length c) b := by
    obtain ⟨A, c, rfl, hr⟩ := k; exact ⟨A, c, rfl, A, c, rfl, hr⟩
  clear h k
  rcases Nat.lt_or_ge (dig a).length (dig b).length with hlt | hge
  · have Hg := hid (show Nat.gcd a b = Nat.gcd b a from Nat.gcd_comm a b)
    by_cases hy0 : a = 0
    · have hE := len_zero hy0
      have Hr := hid (show Nat.gcd a b = b by rw [Hg.out, hy0, Nat.gcd_zero_right])
      clear hy0
      go_enter Tryz.func105, Tryz.ntmps105
      go_wp2
      go_ret
      exact ⟨_, rfl, by rw [Hr.out]; exact k', Below.refl _ _⟩
    have hE := len_pos hy0
    have HY := hid hy0
    clear hy0
    by_cases hy1 : a = 1
    · have Hr := hid (show Nat.gcd a b = a by rw [Hg.out, hy1, Nat.gcd_one_right])
      have H1 := hid (decide_eq_true hy1)
      clear hy1
      go_enter Tryz.func105, Tryz.ntmps105
      go_wp2_with fail
      refine (isOne_nm h').mono ?_
      rintro e w1 ⟨rfl, rfl⟩
      rw [H1.out]
      go_wp2
      go_ret
      exact ⟨_, rfl, by rw [Hr.out]; exact h', Below.refl _ _⟩
    have H1 := hid (decide_eq_false hy1)
    clear hy1
    have HX : Hid (b ≠ 0) := hid (ne_of_len (Nat.le_of_lt hlt) HY.out)
    have hB0 := hid (Below.refl w.heap.size w)
    by_cases hl2 : (dig a).length < (dig b).length
    · go_enter Tryz.func105, Tryz.ntmps105
      go_wp2_with fail
      refine (isOne_nm h').mono ?_
      rintro e w1 ⟨rfl, rfl⟩
      rw [H1.out]
      go_wp2_with fail
      refine (divLimbs_nm k' h' HY.out (by omega)).mono ?_
      rintro e w2 ⟨v7, r7, rfl, -, hr7, hb7⟩
      obtain ⟨R, rc, rfl, hr⟩ : ∃ A c, r7 = .slice A (dig (b % a)).length c ∧ Nm w2 (.slice A (dig (b % a)).length c) (b % a) := by
        obtain ⟨A, c, rfl, hr⟩ := hr7; exact ⟨A, c, rfl, A, c, rfl, hr⟩
      have hy7 := h'.below hb7
      have T7 := hT.below hb7
      have hB7 := hid hb7
      clear hr7 hb7
      by_cases hz : b % a = 0
      · have hE2 := len_zero hz
        have Hr := hid (show Nat.gcd a b = a by rw [Hg.out, ← gcd_mod, hz, Nat.gcd_zero_left])
        clear hz
        go_wp2
        go_ret
        exact ⟨_, rfl, by rw [Hr.out]; exact hy7, hB7.out⟩
      · have hE2 := len_pos hz
        have HX := hid hz
        have Hrl := hid (show (dig (b % a)).length ≤ 100000000 from Nat.le_trans (dig_le (Nat.mod_le b a)) (by omega))
        have Hr := hid (show Nat.gcd (b % a) a = Nat.gcd a b by rw [Hg.out, gcd_mod])
        clear hz
        go_wp2_with fail
        refine (pack_nm hr (by exact Hrl.out)).mono ?_
        rintro e v1 ⟨p1, rfl, hp1, hw1, hb1⟩
        have kk := hy7.below hb1
        go_wp2_with fail
        refine (pack_nm kk (by omega)).mono ?_
        rintro e v2 ⟨p2, rfl, hp2, hw2, hb2⟩
        have hw3 := hw1.below hb2
        have hB2 := hid (bthen (bthen hB7.out hb1 (Nat.le_refl _)) hb2 (Nat.le_refl _))
        have T2 := (T7.below hb1).below hb2
        have hne : _ ≠ _ := Nat.ne_of_lt (Nat.lt_of_lt_of_le hw1.lt (Nat.le_refl _))
        have s1 := hB7.out.size
        have s2 := hb1.size
        clear hb1 hb2 hw1 kk
        go_wp2_with fail
        refine (binary_any w.heap.size _ _ p1 p1 _ p2 p2 _ (p1 + p2) _ hw3 hw2 HX.out HY.out hne s1 (Nat.le_trans s1 s2) (Nat.le_add_right _ _) (Nat.le_add_left _ _) (by omega) T2 hT.2).mono ?_
        rintro e v3 ⟨g3, m3, d3, rfl, hw4, hb3⟩
        rw [Hr.out] at hw4
        have hB3 := hid (hB2.out.trans hb3)
        clear hb3 hw3 hw2 hne s1 s2
        go_wp2_with fail
        refine (unpack_wt hw4).mono ?_
        rintro e v4 ⟨r4, rfl, hr4, hb4⟩
        have hE := bthen hB3.out hb4 (Nat.le_refl _)
        go_wp2
        go_ret
        exact ⟨r4, rfl, hr4, hE⟩
    · exact absurd hlt hl2
  · have Hg := hid (show Nat.gcd a b = Nat.gcd a b from rfl)
    by_cases hy0 : b = 0
    · have hE := len_zero hy0
      have Hr := hid (show Nat.gcd a b = a by rw [hy0, Nat.gcd_zero_right])
      clear hy0
      go_enter Tryz.func105, Tryz.ntmps105
      go_wp2
      go_ret
      exact ⟨_, rfl, by rw [Hr.out]; exact h', Below.refl _ _⟩
    have hE := len_pos hy0
    have HY := hid hy0
    clear hy0
    by_cases hy1 : b = 1
    · have Hr := hid (show Nat.gcd a b = b by rw [hy1, Nat.gcd_one_right])
      have H1 := hid (decide_eq_true hy1)
      clear hy1
      go_enter Tryz.func105, Tryz.ntmps105
      go_wp2_with fail
      refine (isOne_nm k').mono ?_
      rintro e w1 ⟨rfl, rfl⟩
      rw [H1.out]
      go_wp2
      go_ret
      exact ⟨_, rfl, by rw [Hr.out]; exact k', Below.refl _ _⟩
    have H1 := hid (decide_eq_false hy1)
    clear hy1
    have HX : Hid (a ≠ 0) := hid (ne_of_len (hge) HY.out)
    have hB0 := hid (Below.refl w.heap.size w)
    by_cases hl2 : (dig b).length < (dig a).length
    · go_enter Tryz.func105, Tryz.ntmps105
      go_wp2_with fail
      refine (isOne_nm k').mono ?_
      rintro e w1 ⟨rfl, rfl⟩
      rw [H1.out]
      go_wp2_with fail
      refine (divLimbs_nm h' k' HY.out (by omega)).mono ?_
      rintro e w2 ⟨v7, r7, rfl, -, hr7, hb7⟩
      obtain ⟨R, rc, rfl, hr⟩ : ∃ A c, r7 = .slice A (dig (a % b)).length c ∧ Nm w2 (.slice A (dig (a % b)).length c) (a % b) := by
        obtain ⟨A, c, rfl, hr⟩ := hr7; exact ⟨A, c, rfl, A, c, rfl, hr⟩
      have hy7 := k'.below hb7
      have T7 := hT.below hb7
      have hB7 := hid hb7
      clear hr7 hb7
      by_cases hz : a % b = 0
      · have hE2 := len_zero hz
        have Hr := hid (show Nat.gcd a b = b by rw [← gcd_mod, hz, Nat.gcd_zero_left])
        clear hz
        go_wp2
        go_ret
        exact ⟨_, rfl, by rw [Hr.out]; exact hy7, hB7.out⟩
      · have hE2 := len_pos hz
        have HX := hid hz
        have Hrl := hid (show (dig (a % b)).length ≤ 100000000 from Nat.le_trans (dig_le (Nat.mod_le a b)) (by omega))
        have Hr := hid (show Nat.gcd (a % b) b = Nat.gcd a b by rw [gcd_mod])
        clear hz
        go_wp2_with fail
        refine (pack_nm hr (by exact Hrl.out)).mono ?_
        rintro e v1 ⟨p1, rfl, hp1, hw1, hb1⟩
        have kk := hy7.below hb1
        go_wp2_with fail
        refine (pack_nm kk (by omega)).mono ?_
        rintro e v2 ⟨p2, rfl, hp2, hw2, hb2⟩
        have hw3 := hw1.below hb2
        have hB2 := hid (bthen (bthen hB7.out hb1 (Nat.le_refl _)) hb2 (Nat.le_refl _))
        have T2 := (T7.below hb1).below hb2
        have hne : _ ≠ _ := Nat.ne_of_lt (Nat.lt_of_lt_of_le hw1.lt (Nat.le_refl _))
        have s1 := hB7.out.size
        have s2 := hb1.size
        clear hb1 hb2 hw1 kk
        go_wp2_with fail
        refine (binary_any w.heap.size _ _ p1 p1 _ p2 p2 _ (p1 + p2) _ hw3 hw2 HX.out HY.out hne s1 (Nat.le_trans s1 s2) (Nat.le_add_right _ _) (Nat.le_add_left _ _) (by omega) T2 hT.2).mono ?_
        rintro e v3 ⟨g3, m3, d3, rfl, hw4, hb3⟩
        rw [Hr.out] at hw4
        have hB3 := hid (hB2.out.trans hb3)
        clear hb3 hw3 hw2 hne s1 s2
        go_wp2_with fail
        refine (unpack_wt hw4).mono ?_
        rintro e v4 ⟨r4, rfl, hr4, hb4⟩
        have hE := bthen hB3.out hb4 (Nat.le_refl _)
        go_wp2
        go_ret
        exact ⟨r4, rfl, hr4, hE⟩
    · go_enter Tryz.func105, Tryz.ntmps105
      go_wp2_with fail
      refine (isOne_nm k').mono ?_
      rintro e w1 ⟨rfl, rfl⟩
      rw [H1.out]
      go_wp2_with fail
      refine (pack_nm h' (by omega)).mono ?_
      rintro e v1 ⟨p1, rfl, hp1, hw1, hb1⟩
      have kk := k'.below hb1
      go_wp2_with fail
      refine (pack_nm kk (by omega)).mono ?_
      rintro e v2 ⟨p2, rfl, hp2, hw2, hb2⟩
      have hw3 := hw1.below hb2
      have hB2 := hid (bthen (bthen hB0.out hb1 (Nat.le_refl _)) hb2 (Nat.le_refl _))
      have T2 := (hT.below hb1).below hb2
      have hne : _ ≠ _ := Nat.ne_of_lt (Nat.lt_of_lt_of_le hw1.lt (Nat.le_refl _))
      have s1 := hB0.out.size
      have s2 := hb1.size
      clear hb1 hb2 hw1 kk
      go_wp2_with fail
      refine (binary_any w.heap.size _ _ p1 p1 _ p2 p2 _ (p1 + p2) _ hw3 hw2 HX.out HY.out hne s1 (Nat.le_trans s1 s2) (Nat.le_add_right _ _) (Nat.le_add_left _ _) (by omega) T2 hT.2).mono ?_
      rintro e v3 ⟨g3, m3, d3, rfl, hw4, hb3⟩
      skip
      have hB3 := hid (hB2.out.trans hb3)
      clear hb3 hw3 hw2 hne s1 s2
      go_wp2_with fail
      refine (unpack_wt hw4).mono ?_
      rintro e v4 ⟨r4, rfl, hr4, hb4⟩
      have hE := bthen hB3.out hb4 (Nat.le_refl _)
      go_wp2
      go_ret
      exact ⟨r4, rfl, hr4, hE⟩

end Go.Proofs.YtffipjofefemiaaGreatDoor
