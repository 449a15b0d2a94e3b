/- The contracts of the operations on integers, over numbers: what comes in is any integer, what goes out is normalized. -/
import Derived.Test.YtlfeendebbidhaaDoorAwake
namespace Go.Proofs.YtlfeendebbidhaaDoor
open Go.RowKit Kb

/-- The number has at most k limbs. -/
def Le (k : Nat) (z : Int) : Prop := z.natAbs < 65536 ^ k
theorem Le.len {k : Nat} {z : Int} (h : Le k z) : (dig z.natAbs).length ≤ k := dig_length_le h
theorem Le.mono {k l : Nat} {z : Int} (h : Le k z) (hk : k ≤ l) : Le l z := Nat.lt_of_lt_of_le h (Nat.pow_le_pow_right (by decide) hk)
theorem Le.add {k : Nat} {x y : Int} (h : Le k x) (h' : Le k y) : Le (k + 1) (x + y) := by
  unfold Le at *
  rw [Nat.pow_succ]
  have : (x + y).natAbs ≤ x.natAbs + y.natAbs := Int.natAbs_add_le x y
  omega
theorem Le.neg {k : Nat} {x : Int} (h : Le k x) : Le k (-x) := by unfold Le at *; rwa [Int.natAbs_neg]
theorem Le.sub {k : Nat} {x y : Int} (h : Le k x) (h' : Le k y) : Le (k + 1) (x - y) := by rw [Int.sub_eq_add_neg]; exact h.add h'.neg
theorem Le.mul {k l : Nat} {x y : Int} (h : Le k x) (h' : Le l y) : Le (k + l) (x * y) := by
  unfold Le at *
  rw [Int.natAbs_mul, Nat.pow_add]
  exact Nat.mul_lt_mul'' h h'
theorem Le.zero (k : Nat) : Le k 0 := by unfold Le; exact Nat.pow_pos (by decide)
theorem Le.one {k : Nat} (h : 0 < k) : Le k 1 := by
  unfold Le
  exact Nat.lt_of_lt_of_le (by decide : 1 < 65536 ^ 1) (Nat.pow_le_pow_right (by decide) h)
theorem Le.mod {k : Nat} {x y : Int} (h : Le k y) (h0 : y ≠ 0) : Le k (x % y) := by
  unfold Le at *
  have h1 := Int.emod_nonneg x h0
  have h2 := Int.emod_lt x h0
  omega
theorem Le.div {k : Nat} {x y : Int} (h : Le k x) (h0 : y ≠ 0) : Le (k + 1) (x / y) := by
  unfold Le at *
  rw [Nat.pow_succ]
  have h1 : (x / y).natAbs ≤ x.natAbs + 1 := by
    have e := Int.mul_ediv_add_emod x y
    have h1 := Int.emod_nonneg x h0
    have h2 := Int.emod_lt x h0
    have h3 : (y * (x / y)).natAbs = y.natAbs * (x / y).natAbs := Int.natAbs_mul _ _
    have h4 : (y * (x / y)).natAbs < x.natAbs + y.natAbs := by omega
    rw [h3] at h4
    have h5 : 0 < y.natAbs := by omega
    rcases Nat.lt_or_ge (x.natAbs + 1) (x / y).natAbs with h6 | h6
    · have h7 : y.natAbs * (x.natAbs + 2) ≤ y.natAbs * (x / y).natAbs := Nat.mul_le_mul_left _ h6
      rw [Nat.mul_add] at h7
      have h8 : x.natAbs ≤ y.natAbs * x.natAbs := Nat.le_mul_of_pos_left _ h5
      omega
    · exact h6
  have : 0 < 65536 ^ k := Nat.pow_pos (by decide)
  omega

/-- The fields read as the integer z, in whatever form. -/
def Zi (w : World) (s : Bool) (A : Option Addr) (n c : Nat) (z : Int) : Prop := ∃ a, Raw w A n c a ∧ Hid (toZ s a = z)
/-- The fields are the integer z, normalized. -/
def Zn (w : World) (s : Bool) (A : Option Addr) (n c : Nat) (z : Int) : Prop := Hid (s = decide (z < 0)) ∧ Nm w (.slice A n c) z.natAbs
section
variable {w w' : World} {s t : Bool} {A B : Option Addr} {n c m d : Nat} {z x y : Int}
theorem Zi.below (h : Zi w s A n c z) (hb : Below w.heap.size w w') : Zi w' s A n c z := by
  obtain ⟨a, h1, h2⟩ := h; exact ⟨a, h1.below hb, h2⟩
theorem Zn.below (h : Zn w s A n c z) (hb : Below w.heap.size w w') : Zn w' s A n c z := ⟨h.1, h.2.below hb⟩
theorem Zn.zi (h : Zn w s A n c z) : Zi w s A n c z := ⟨z.natAbs, h.2.raw, hid (by rw [h.1.out]; exact toZ_of z)⟩
theorem Zi.nat {a : Nat} (h : toZ s a = z) : a = z.natAbs := by rw [← h, natAbs_toZ]
theorem Raw.offbox {a g : Nat} {C : Array Value} {T : TypeId} (h : Raw w A n c a) (hb : w.heap[g]? = some (.cells C T (0, 0))) (hC : NoInt C) (hg : w.grownBy w' (some g)) : Raw w' A n c a := by
  obtain ⟨xs, h1, h2, h3⟩ := h
  exact ⟨xs, h1, h2.offbox hb hC hg, h3⟩
theorem Zi.offbox {g : Nat} {C : Array Value} {T : TypeId} (h : Zi w s A n c z) (hb : w.heap[g]? = some (.cells C T (0, 0))) (hC : NoInt C) (hg : w.grownBy w' (some g)) : Zi w' s A n c z := by
  obtain ⟨a, h1, h2⟩ := h; exact ⟨a, h1.offbox hb hC hg, h2⟩
theorem Zn.offbox {g : Nat} {C : Array Value} {T : TypeId} (h : Zn w s A n c z) (hb : w.heap[g]? = some (.cells C T (0, 0))) (hC : NoInt C) (hg : w.grownBy w' (some g)) : Zn w' s A n c z := ⟨h.1, h.2.offbox hb hC hg⟩
/-- With the sign struck: the absolute value. -/
theorem Zn.abs (h : Zn w s A n c z) : Zi w false A n c (z.natAbs : Int) := ⟨z.natAbs, h.2.raw, hid (by unfold toZ; rw [if_neg (by decide)])⟩
end

section
variable {P : Program} {f : FuncId} {args : Array Value} {w : World} {z : Int}
theorem zn_open (h : Calls P f args w fun e w' => ∃ v, e = .returned v ∧ Nz w' v z ∧ Below w.heap.size w w') :
    Calls P f args w fun e w' => ∃ s A n c, e = .returned (.agg #[.bool s, .slice A n c]) ∧ Zn w' s A n c z ∧ Below w.heap.size w w' := by
  refine (nz_openb h).mono ?_
  rintro e w' ⟨s, A, n, c, rfl, h1, h2, h3⟩
  exact ⟨s, A, n, c, rfl, ⟨h1, h2⟩, h3⟩
end
variable {s t : Bool} {A B : Option Addr} {n c m d : Nat} {x y : Int} {w : World}
theorem AddZ (h : Zi w s A n c x) (k : Zi w t B m d y) (hx : Le 1000 x) (hy : Le 1000 y) :
    Calls Tryd.prog 18 #[.agg #[.bool s, .slice A n c], .agg #[.bool t, .slice B m d]] w fun e w' => ∃ r C n c, e = .returned (.agg #[.bool r, .slice C n c]) ∧ Zn w' r C n c (x + y) ∧ Below w.heap.size w w' := by
  obtain ⟨a, ha, ea⟩ := h
  obtain ⟨b, hb, eb⟩ := k
  have := zn_open (Add_any s t A B n c m d a b w ha hb (by rw [Zi.nat ea.out]; have := hx.len; omega) (by rw [Zi.nat eb.out]; have := hy.len; omega))
  rwa [ea.out, eb.out] at this
theorem SubZ (h : Zi w s A n c x) (k : Zi w t B m d y) (hx : Le 1000 x) (hy : Le 1000 y) :
    Calls Tryd.prog 20 #[.agg #[.bool s, .slice A n c], .agg #[.bool t, .slice B m d]] w fun e w' => ∃ r C n c, e = .returned (.agg #[.bool r, .slice C n c]) ∧ Zn w' r C n c (x - y) ∧ Below w.heap.size w w' := by
  obtain ⟨a, ha, ea⟩ := h
  obtain ⟨b, hb, eb⟩ := k
  have := zn_open (Sub_any s t A B n c m d a b w ha hb (by rw [Zi.nat ea.out]; have := hx.len; omega) (by rw [Zi.nat eb.out]; have := hy.len; omega))
  rwa [ea.out, eb.out] at this
theorem MulZ (h : Zi w s A n c x) (k : Zi w t B m d y) (hx : Le 1000 x) (hy : Le 1000 y) :
    Calls Tryd.prog 22 #[.agg #[.bool s, .slice A n c], .agg #[.bool t, .slice B m d]] w fun e w' => ∃ r C n c, e = .returned (.agg #[.bool r, .slice C n c]) ∧ Zn w' r C n c (x * y) ∧ Below w.heap.size w w' := by
  obtain ⟨a, ha, ea⟩ := h
  obtain ⟨b, hb, eb⟩ := k
  have := zn_open (Mul_any s t A B n c m d a b w ha hb (by rw [Zi.nat ea.out]; have := hx.len; omega) (by rw [Zi.nat eb.out]; have := hy.len; omega))
  rwa [ea.out, eb.out] at this
theorem DivModZ (h : Zi w s A n c x) (k : Zi w t B m d y) (hx : Le 1000 x) (hy : Le 1000 y) (h0 : y ≠ 0) :
    Calls Tryd.prog 11 #[.agg #[.bool s, .slice A n c], .agg #[.bool t, .slice B m d]] w fun e w' => ∃ r C n c r' C' n' c', e = .returned (.tuple #[.agg #[.bool r, .slice C n c], .agg #[.bool r', .slice C' n' c'], .int .i64 0]) ∧ Zn w' r C n c (x / y) ∧ Zn w' r' C' n' c' (x % y) ∧ Below w.heap.size w w' := by
  obtain ⟨a, ha, ea⟩ := h
  obtain ⟨b, hb, eb⟩ := k
  have hb0 : b ≠ 0 := fun e => h0 (by rw [← eb.out, e]; cases t <;> rfl)
  refine (DivMod_any s t A B n c m d a b w ha hb hb0 (by rw [Zi.nat ea.out]; have := hx.len; omega) (by rw [Zi.nat eb.out]; have := hy.len; omega)).mono ?_
  rintro e w' ⟨v, u, rfl, ⟨C, n, c, rfl, h1⟩, ⟨C', n', c', rfl, h2⟩, hB⟩
  rw [ea.out, eb.out] at h1 h2
  exact ⟨_, C, n, c, _, C', n', c', rfl, ⟨hid (by rw [ea.out, eb.out]), h1⟩, ⟨hid (by rw [ea.out, eb.out]), h2⟩, hB⟩
theorem DivModZ0 (k : Zi w t B m d 0) :
    Calls Tryd.prog 11 #[.agg #[.bool s, .slice A n c], .agg #[.bool t, .slice B m d]] w fun e w' => ∃ r C n c r' C' n' c', e = .returned (.tuple #[.agg #[.bool r, .slice C n c], .agg #[.bool r', .slice C' n' c'], .int .i64 9]) ∧ Zn w' r C n c 0 ∧ Zn w' r' C' n' c' 0 ∧ Below w.heap.size w w' := by
  obtain ⟨b, hb, eb⟩ := k
  obtain rfl : b = 0 := Zi.nat eb.out
  refine (DivMod_zero s t A B n c m d w hb).mono ?_
  rintro e w' ⟨v, u, rfl, ⟨C, n, c, rfl, h1⟩, ⟨C', n', c', rfl, h2⟩, hB⟩
  exact ⟨_, C, n, c, _, C', n', c', rfl, ⟨hid rfl, h1⟩, ⟨hid rfl, h2⟩, hB⟩
theorem OfZ0 (w : World) :
    Calls Tryd.prog 10 #[.int .i64 0] w fun e w' => ∃ r C n c, e = .returned (.agg #[.bool r, .slice C n c]) ∧ Zn w' r C n c 0 ∧ Below w.heap.size w w' := zn_open (Of_any 0 w (by decide) (by decide))
theorem CmpZ (h : Zi w s A n c x) (k : Zi w t B m d y) (hx : Le 1000 x) :
    Calls Tryd.prog 14 #[.agg #[.bool s, .slice A n c], .agg #[.bool t, .slice B m d]] w fun e w' => e = .returned (.int .i64 (cmpZ x y)) ∧ Below w.heap.size w w' := by
  obtain ⟨a, ha, ea⟩ := h
  obtain ⟨b, hb, eb⟩ := k
  have := Cmp_any s t A B n c m d a b w ha hb (by rw [Zi.nat ea.out]; have := hx.len; omega)
  rwa [ea.out, eb.out] at this
theorem SameZ (h : Zn w s A n c x) (k : Zn w t B m d y) (e : x = y) :
    Calls Tryd.prog 12 #[.agg #[.bool s, .slice A n c], .agg #[.bool t, .slice B m d]] w fun e w' => e = .returned (.bool true) ∧ Below w.heap.size w w' := by
  subst e
  obtain rfl : s = t := h.1.out.trans k.1.out.symm
  exact SameInt_true s A B n c m d _ w h.2 k.2

end Go.Proofs.YtlfeendebbidhaaDoor
