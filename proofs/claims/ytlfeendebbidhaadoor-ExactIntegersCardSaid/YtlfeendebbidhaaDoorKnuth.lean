/- The contracts of takeProduct, putBack, digit: one digit of a long division. For all windows of a row that hold numbers as a long division meets them. -/
import Derived.Test.YtlfeendebbidhaaDoorShift
namespace Go.Proofs.YtlfeendebbidhaaDoor
open Go.RowKit Kb

theorem nth_mid {L X R : List Nat} {j k : Nat} (hL : L.length = j) (hk : k < X.length) : nth (L ++ (X ++ R)) (j + k) = nth X k := by
  rw [nth_append, if_neg (by omega), nth_append, hL, show j + k - j = k by omega, if_pos hk]
theorem set_mid {L X R : List Nat} {j k d : Nat} (hL : L.length = j) (hk : k < X.length) : (L ++ (X ++ R)).set (j + k) d = L ++ (X.set k d ++ R) := by
  rw [List.set_append_right _ _ (by omega), hL, show j + k - j = k by omega, List.set_append_left _ _ hk]

/-- The state of a product that is taken away: k digits are done. -/
def TakeRel (X V : List Nat) (q k : Nat) (Y : List Nat) (c br : Nat) : Prop :=
  Y.length = X.length ∧ Lim Y ∧ c < 65536 ∧ br ≤ 1 ∧ val Y + q * val (V.take k) = val X + 65536 ^ k * (c + br)
theorem TakeRel.start {X : List Nat} (V : List Nat) (q : Nat) (hX : Lim X) : TakeRel X V q 0 X 0 0 := ⟨rfl, hX, by omega, by omega, by simp [val]⟩
theorem TakeRel.next {X V Y : List Nat} {q k c br d br' : Nat} (h : TakeRel X V q k Y c br) (hk : k < X.length) (hq : q < 65536) (hV : Lim V) (hd : d < 65536) (hb : br' ≤ 1)
    (he : d + (c + q * nth V k) % 65536 + br = nth Y k + 65536 * br') : TakeRel X V q (k + 1) (Y.set k d) ((c + q * nth V k) / 65536) br' := by
  obtain ⟨h1, h2, h3, h4, h5⟩ := h
  have hy := lim_nth hV k
  have hm : q * nth V k ≤ 65535 * 65535 := Nat.mul_le_mul (by omega) (by omega)
  refine ⟨by rw [List.length_set, h1], lim_set h2 hd, by omega, hb, ?_⟩
  have e := val_set (l := Y) (i := k) (v := d) (by omega)
  have e2 : 65536 ^ k * nth Y k + 65536 ^ k * (65536 * ((c + q * nth V k) / 65536 + br')) = 65536 ^ k * d + 65536 ^ k * c + 65536 ^ k * (q * nth V k) + 65536 ^ k * br := by
    rw [← Nat.mul_add, ← Nat.mul_add, ← Nat.mul_add, ← Nat.mul_add]
    congr 1
    omega
  have e3 : q * (val (V.take k) + 65536 ^ k * nth V k) = q * val (V.take k) + 65536 ^ k * (q * nth V k) := by rw [Nat.mul_add, Nat.mul_left_comm]
  have e4 : 65536 ^ (k + 1) * ((c + q * nth V k) / 65536 + br') = 65536 ^ k * (65536 * ((c + q * nth V k) / 65536 + br')) := by rw [Nat.pow_succ, Nat.mul_assoc]
  have h6 : val Y + q * val (V.take k) = val X + 65536 ^ k * c + 65536 ^ k * br := by rw [h5, Nat.mul_add]; omega
  rw [val_take_succ', e3, e4]
  omega
/-- .. with the last digit, which the carry and the borrow go into. -/
theorem TakeRel.last {X V Y : List Nat} {q n c br d neg : Nat} (h : TakeRel X V q n Y c br) (hn : X.length = n + 1) (hV : V.length = n) (hd : d < 65536) (he : d + c + br = nth Y n + 65536 * neg) :
    (Y.set n d).length = X.length ∧ Lim (Y.set n d) ∧ val (Y.set n d) + q * val V = val X + 65536 ^ (n + 1) * neg := by
  obtain ⟨h1, h2, h3, h4, h5⟩ := h
  refine ⟨by rw [List.length_set, h1], lim_set h2 hd, ?_⟩
  have e := val_set (l := Y) (i := n) (v := d) (by omega)
  rw [List.take_of_length_le (by omega)] at h5
  have e2 : 65536 ^ n * nth Y n + 65536 ^ n * (65536 * neg) = 65536 ^ n * d + 65536 ^ n * c + 65536 ^ n * br := by
    rw [← Nat.mul_add, ← Nat.mul_add, ← Nat.mul_add, he]
  have e4 : 65536 ^ (n + 1) * neg = 65536 ^ n * (65536 * neg) := by rw [Nat.pow_succ, Nat.mul_assoc]
  have h6 : val Y + q * val V = val X + 65536 ^ n * c + 65536 ^ n * br := by rw [h5, Nat.mul_add]; omega
  rw [e4]
  omega

set_option maxRecDepth 100000 in
set_option maxHeartbeats 2000000 in
theorem takeProduct_any (g gv j n cu cv q : Nat) (L X R V : List Nat) (w : World) (hp : Pre w g 71 .u16 (L ++ (X ++ R))) (hv : Pre w gv 71 .u16 V) (hne : gv ≠ g)
    (hL : L.length = j) (hX : X.length = n + 1) (hV : V.length = n) (hlX : Lim X) (hlV : Lim V) (hq : q < 65536) (hbig : j + n ≤ 1000000000) (hcu : n + 1 ≤ cu) (hcu2 : cu ≤ 2000000000) :
    Calls Tryd.prog 95 #[.slice (some ⟨g, j, none⟩) (n + 1) cu, .slice (some ⟨gv, 0, none⟩) n cv, .int .u32 q] w fun e w' =>
      ∃ (Y : List Nat) (neg : Nat), e = .returned (.bool (decide (neg = 1))) ∧ neg ≤ 1 ∧ Y.length = n + 1 ∧ Lim Y ∧ val Y + q * val V = val X + 65536 ^ (n + 1) * neg ∧ Pre w' g 71 .u16 (L ++ (Y ++ R)) ∧ w.grownBy w' (some g) := by
  go_enter Tryd.func95, Tryd.ntmps95
  go_wp2
  go_quiet (fail)
  have hp' : Pre (w.drewN nq) g 71 .u16 (L ++ (X ++ R)) := hp
  have hv' : Pre (w.drewN nq) gv 71 .u16 V := hv
  have hg' : w.grownBy (w.drewN nq) (some g) := gb_drewN (World.grownBy.refl _ _) nq
  clear hp hv
  generalize w.drewN nq = w0 at *
  go_wp2
  go_loopw [7, 8, 20] (fun cv bv iv wr => ∃ (k c br : Nat) (Y : List Nat), k ≤ n ∧ cv = .int .u32 c ∧ bv = .int .u32 br ∧ iv = .int .i64 k ∧ TakeRel X V q k Y c br ∧ Pre wr g 71 .u16 (L ++ (Y ++ R)) ∧ Pre wr gv 71 .u16 V ∧ w.grownBy wr (some g)) (fun _ _ iv _ => n - (intOf iv).toNat)
  case atStart => exact ⟨0, 0, 0, X, Nat.zero_le _, rfl, rfl, rfl, TakeRel.start V q hlX, hp', hv', hg'⟩
  case round =>
    obtain ⟨k, c, br, Y, hk, rfl, rfl, rfl, hr, hrow, hvv, hgr⟩ := hrel
    have hYl := hid hr.1
    have hc := hr.2.2.1
    have hbr := hr.2.2.2.1
    have hcell := hrow.cell (i := j + k) (by simp; have := hYl.out; omega)
    rw [nth_mid hL (by have := hYl.out; omega)] at hcell
    have hfr := hrow.frozen (j + k)
    have hy := lim_nth hr.2.1 k
    have hyw := u32_of (s := nth Y k) (by omega)
    by_cases hlt : k < n
    · have hcell2 := hvv.cell (i := k) (by omega)
      have hx := lim_nth hlV k
      have hxw := u32_of (s := nth V k) (by omega)
      have hm0 : q * nth V k ≤ 65535 * 65535 := Nat.mul_le_mul (by omega) (by omega)
      have hm1 : (0 : Int) ≤ (q : Int) * (nth V k : Int) := by rw [← Int.natCast_mul]; omega
      have hm2 : (q : Int) * (nth V k : Int) ≤ 4294836225 := by rw [← Int.natCast_mul]; omega
      have HX := hid hX
      have HV := hid hV
      have HL := hid hL
      clear hm0 hX hV hL
      go_wp2
      go_roundw
      case rel =>
        have ht : (c : Int) + (q : Int) * (nth V k : Int) = ((c + q * nth V k : Nat) : Int) := by push_cast; rfl
        rw [ht, and_mask (by rw [← Int.natCast_mul] at hm2; omega)]
        obtain ⟨d, br', q1, q2, q3, q4, q5⟩ := sub_digit (x := nth Y k) (y := (c + q * nth V k) % 65536) (br := br) hy (by omega) hbr rfl
        have e5 : (nth Y k : Int) - (((c + q * nth V k) % 65536 : Nat) : Int) - (br : Int) = (nth Y k : Int) - (br : Int) - (((c + q * nth V k) % 65536 : Nat) : Int) := by omega
        rw [e5, q4, q5]
        have hw := hrow.set (i := j + k) (by simp; have := hYl.out; have := HX.out; have := HL.out; omega) d
        rw [set_mid HL.out (by have := hYl.out; have := HX.out; omega)] at hw
        exact ⟨k + 1, (c + q * nth V k) / 65536, br', _, hlt, val_int (by rw [Int.natCast_ediv]; rfl), rfl, by go_num, hr.next (by have := HX.out; omega) hq hlV q1 q2 q3, hw, hvv.grown (gb_set (World.grownBy.refl _ _) (j + k) _) (by simpa using hne), gb_set hgr (j + k) _⟩
      case measure => simp [intOf]; omega
    · obtain rfl : k = n := by omega
      have HX := hid hX
      have HV := hid hV
      have HL := hid hL
      clear hX hV hL
      go_wp2
      go_ret
      obtain ⟨d, br', q1, q2, q3, q4, q5⟩ := sub_digit (x := nth Y k) (y := c) (br := br) hy hc hbr rfl
      have e5 : (nth Y k : Int) - (c : Int) - (br : Int) = (nth Y k : Int) - (br : Int) - (c : Int) := by omega
      rw [e5, q4, q5]
      obtain ⟨l1, l2, l3⟩ := hr.last (d := d) (neg := br') HX.out HV.out q1 q3
      have hw := hrow.set (i := j + k) (by simp; have := hYl.out; have := HX.out; have := HL.out; omega) d
      rw [set_mid HL.out (by have := hYl.out; have := HX.out; omega)] at hw
      refine ⟨_, br', ?_, q2, l1.trans HX.out, l2, l3, hw, gb_set hgr (j + k) _⟩
      have : ((br' : Int) == 1) = decide (br' = 1) := by rw [Bool.eq_iff_iff]; simp; omega
      simp only [this]
      rfl

/-- The state of a sum that is put back: k digits are done. -/
def PutRel (X V : List Nat) (k : Nat) (Y : List Nat) (c : Nat) : Prop :=
  Y.length = X.length ∧ Lim Y ∧ c ≤ 1 ∧ val Y + 65536 ^ k * c = val X + val (V.take k)
theorem PutRel.start {X : List Nat} (V : List Nat) (hX : Lim X) : PutRel X V 0 X 0 := ⟨rfl, hX, by omega, by simp [val]⟩
theorem PutRel.next {X V Y : List Nat} {k c : Nat} (h : PutRel X V k Y c) (hk : k < X.length) (hV : Lim V) :
    PutRel X V (k + 1) (Y.set k ((c + nth Y k + nth V k) % 65536)) ((c + nth Y k + nth V k) / 65536) := by
  obtain ⟨h1, h2, h3, h4⟩ := h
  have hy := lim_nth hV k
  have hz := lim_nth h2 k
  refine ⟨by rw [List.length_set, h1], lim_set h2 (by omega), by omega, ?_⟩
  have e := val_set (l := Y) (i := k) (v := (c + nth Y k + nth V k) % 65536) (by omega)
  have e2 : 65536 ^ k * ((c + nth Y k + nth V k) % 65536) + 65536 ^ k * (65536 * ((c + nth Y k + nth V k) / 65536)) = 65536 ^ k * c + 65536 ^ k * nth Y k + 65536 ^ k * nth V k := by
    rw [← Nat.mul_add, ← Nat.mul_add, ← Nat.mul_add]
    congr 1
    omega
  have e4 : 65536 ^ (k + 1) * ((c + nth Y k + nth V k) / 65536) = 65536 ^ k * (65536 * ((c + nth Y k + nth V k) / 65536)) := by rw [Nat.pow_succ, Nat.mul_assoc]
  rw [val_take_succ', e4]
  omega
theorem PutRel.last {X V Y : List Nat} {n c : Nat} (h : PutRel X V n Y c) (hn : X.length = n + 1) (hV : V.length = n) :
    (Y.set n ((nth Y n + c) % 65536)).length = X.length ∧ Lim (Y.set n ((nth Y n + c) % 65536)) ∧ val (Y.set n ((nth Y n + c) % 65536)) + 65536 ^ (n + 1) * ((nth Y n + c) / 65536) = val X + val V := by
  obtain ⟨h1, h2, h3, h4⟩ := h
  refine ⟨by rw [List.length_set, h1], lim_set h2 (by omega), ?_⟩
  have e := val_set (l := Y) (i := n) (v := (nth Y n + c) % 65536) (by omega)
  rw [List.take_of_length_le (by omega)] at h4
  have e2 : 65536 ^ n * ((nth Y n + c) % 65536) + 65536 ^ n * (65536 * ((nth Y n + c) / 65536)) = 65536 ^ n * nth Y n + 65536 ^ n * c := by
    rw [← Nat.mul_add, ← Nat.mul_add]
    congr 1
    omega
  have e4 : 65536 ^ (n + 1) * ((nth Y n + c) / 65536) = 65536 ^ n * (65536 * ((nth Y n + c) / 65536)) := by rw [Nat.pow_succ, Nat.mul_assoc]
  rw [e4]
  omega

set_option maxRecDepth 100000 in
set_option maxHeartbeats 2000000 in
theorem putBack_any (g gv j n cu cv : Nat) (L X R V : List Nat) (w : World) (hp : Pre w g 71 .u16 (L ++ (X ++ R))) (hv : Pre w gv 71 .u16 V) (hne : gv ≠ g)
    (hL : L.length = j) (hX : X.length = n + 1) (hV : V.length = n) (hlX : Lim X) (hlV : Lim V) (hbig : j + n ≤ 1000000000) :
    Calls Tryd.prog 96 #[.slice (some ⟨g, j, none⟩) (n + 1) cu, .slice (some ⟨gv, 0, none⟩) n cv] w fun e w' =>
      e = .returned (.tuple #[]) ∧ ∃ (Y : List Nat) (ov : Nat), ov ≤ 1 ∧ Y.length = n + 1 ∧ Lim Y ∧ val Y + 65536 ^ (n + 1) * ov = val X + val V ∧ Pre w' g 71 .u16 (L ++ (Y ++ R)) ∧ w.grownBy w' (some g) := by
  go_enter Tryd.func96, Tryd.ntmps96
  go_wp2
  go_loopw [4, 9] (fun cv iv wr => ∃ (k c : Nat) (Y : List Nat), k ≤ n ∧ cv = .int .u32 c ∧ iv = .int .i64 k ∧ PutRel X V k Y c ∧ Pre wr g 71 .u16 (L ++ (Y ++ R)) ∧ Pre wr gv 71 .u16 V ∧ w.grownBy wr (some g)) (fun _ iv _ => n - (intOf iv).toNat)
  case atStart => exact ⟨0, 0, X, Nat.zero_le _, rfl, rfl, PutRel.start V hlX, hp, hv, World.grownBy.refl _ _⟩
  case round =>
    obtain ⟨k, c, Y, hk, rfl, rfl, hr, hrow, hvv, hgr⟩ := hrel
    have hYl := hid hr.1
    have hc := hr.2.2.1
    have hcell := hrow.cell (i := j + k) (by simp; have := hYl.out; omega)
    rw [nth_mid hL (by have := hYl.out; omega)] at hcell
    have hfr := hrow.frozen (j + k)
    have hy := lim_nth hr.2.1 k
    have hyw := u32_of (s := nth Y k) (by omega)
    have HX := hid hX
    have HV := hid hV
    have HL := hid hL
    by_cases hlt : k < n
    · have hcell2 := hvv.cell (i := k) (by omega)
      have hx := lim_nth hlV k
      have hxw := u32_of (s := nth V k) (by omega)
      clear hX hV hL
      go_wp2
      go_roundw
      case rel =>
        have ht : (c : Int) + ((nth Y k : Int) + (nth V k : Int)) = ((c + nth Y k + nth V k : Nat) : Int) := by push_cast; omega
        rw [ht, u16_of]
        have hw := hrow.set (i := j + k) (by simp; have := hYl.out; have := HX.out; have := HL.out; omega) ((c + nth Y k + nth V k) % 65536)
        rw [set_mid HL.out (by have := hYl.out; have := HX.out; omega)] at hw
        exact ⟨k + 1, (c + nth Y k + nth V k) / 65536, _, hlt, val_int (by rw [Int.natCast_ediv]; rfl), by go_num, hr.next (by have := HX.out; omega) hlV, hw, hvv.grown (gb_set (World.grownBy.refl _ _) (j + k) _) (by simpa using hne), gb_set hgr (j + k) _⟩
      case measure => simp [intOf]; omega
    · obtain rfl : k = n := by omega
      clear hX hV hL
      go_wp2
      go_end0
      have ht : (nth Y k : Int) + (c : Int) = ((nth Y k + c : Nat) : Int) := by push_cast; rfl
      rw [ht, u16_of]
      obtain ⟨l1, l2, l3⟩ := hr.last HX.out HV.out
      have hw := hrow.set (i := j + k) (by simp; have := hYl.out; have := HX.out; have := HL.out; omega) ((nth Y k + c) % 65536)
      rw [set_mid HL.out (by have := hYl.out; have := HX.out; omega)] at hw
      exact ⟨rfl, _, _, by omega, l1.trans HX.out, l2, l3, hw, gb_set hgr (j + k) _⟩

theorem three_digits (P a b c : Nat) : ((a * 65536 + b) * 65536 + c) * P = 65536 * (65536 * (P * a)) + 65536 * (P * b) + P * c := by
  rw [Nat.mul_comm _ P, Nat.mul_add, Nat.mul_comm (a * 65536 + b) 65536, Nat.mul_left_comm P 65536, Nat.mul_add P, Nat.mul_comm a 65536, Nat.mul_left_comm P 65536 a, Nat.mul_add]
theorem two_digits (P a b : Nat) : (a * 65536 + b) * P = 65536 * (P * a) + P * b := by
  rw [Nat.mul_comm _ P, Nat.mul_add, Nat.mul_comm a 65536, Nat.mul_left_comm P 65536 a]
theorem val_top3 {X : List Nat} {m : Nat} (h : X.length = m + 3) : val X = ((nth X (m + 2) * 65536 + nth X (m + 1)) * 65536 + nth X m) * 65536 ^ m + val (X.take m) := by
  have e : val X = val (X.take (m + 3)) := by rw [List.take_of_length_le (by omega)]
  have p1 : 65536 ^ (m + 1) * nth X (m + 1) = 65536 * (65536 ^ m * nth X (m + 1)) := by rw [Nat.pow_succ, Nat.mul_comm (65536 ^ m), Nat.mul_assoc]
  have p2 : 65536 ^ (m + 2) * nth X (m + 2) = 65536 * (65536 * (65536 ^ m * nth X (m + 2))) := by rw [Nat.pow_succ, Nat.pow_succ, Nat.mul_comm _ 65536, Nat.mul_assoc, Nat.mul_comm (65536 ^ m), Nat.mul_assoc]
  rw [e, val_take_succ', val_take_succ', val_take_succ', p1, p2, three_digits]
  omega
theorem val_top2 {V : List Nat} {m : Nat} (h : V.length = m + 2) : val V = (nth V (m + 1) * 65536 + nth V m) * 65536 ^ m + val (V.take m) := by
  have e : val V = val (V.take (m + 2)) := by rw [List.take_of_length_le (by omega)]
  have p1 : 65536 ^ (m + 1) * nth V (m + 1) = 65536 * (65536 ^ m * nth V (m + 1)) := by rw [Nat.pow_succ, Nat.mul_comm (65536 ^ m), Nat.mul_assoc]
  rw [e, val_take_succ', val_take_succ', p1, two_digits]
  omega

/-- What a guess of a digit must keep: it is not too small, and the rest is that of the two top digits. -/
def Guess (q top v1 g r : Nat) : Prop := g * v1 + r = top ∧ q ≤ g
/-- What the facts about the window are, in numbers: the top digits, a quotient q. -/
structure Top (X V : List Nat) (m q : Nat) : Prop where
  hX : X.length = m + 3
  hV : V.length = m + 2
  lX : Lim X
  lV : Lim V
  big : 32768 ≤ nth V (m + 1)
  lt : val X < 65536 * val V
  hq : q = val X / val V
theorem Top.q_lt {X V : List Nat} {m q : Nat} (t : Top X V m q) : q < 65536 := by
  have := t.lt
  rw [t.hq]
  exact Nat.div_lt_of_lt_mul (by rw [Nat.mul_comm]; exact this)
theorem Top.v_pos {X V : List Nat} {m q : Nat} (t : Top X V m q) : 0 < val V := by
  have := t.lt
  omega
theorem Top.q_le {X V : List Nat} {m q : Nat} (t : Top X V m q) : q * (nth V (m + 1) * 65536 + nth V m) ≤ (nth X (m + 2) * 65536 + nth X (m + 1)) * 65536 + nth X m := by
  have h1 : val (X.take m) < 65536 ^ m := by
    have := val_lt (lim_take t.lX m)
    rwa [List.length_take, Nat.min_eq_left (by have := t.hX; omega)] at this
  have h2 : q * val V ≤ val X := by rw [t.hq]; exact Nat.div_mul_le_self _ _
  rw [val_top3 t.hX, val_top2 t.hV] at h2
  exact guess_ge h1 h2
theorem Top.x_le {X V : List Nat} {m q : Nat} (t : Top X V m q) : nth X (m + 2) ≤ nth V (m + 1) := by
  have h1 : val (V.take m) < 65536 ^ m := by
    have := val_lt (lim_take t.lV m)
    rwa [List.length_take, Nat.min_eq_left (by have := t.hV; omega)] at this
  have hlt := t.lt
  rw [val_top3 t.hX, val_top2 t.hV, three_digits, two_digits] at hlt
  rcases Nat.lt_or_ge (nth V (m + 1)) (nth X (m + 2)) with h | h
  · exfalso
    have h3 : 65536 ^ m * (nth V (m + 1) + 1) ≤ 65536 ^ m * nth X (m + 2) := Nat.mul_le_mul_left _ h
    have h4 : 65536 ^ m * nth V m ≤ 65536 ^ m * 65535 := Nat.mul_le_mul_left _ (by have := lim_nth t.lV m; omega)
    rw [Nat.mul_add] at h3
    omega
  · exact h
theorem Top.fin {X V : List Nat} {m q g : Nat} (t : Top X V m q) (hg : g ≤ 65535) (h : g * (nth V (m + 1) * 65536 + nth V m) ≤ (nth X (m + 2) * 65536 + nth X (m + 1)) * 65536 + nth X m) : g ≤ q + 1 := by
  have h1 : val (V.take m) < 65536 ^ m := by
    have := val_lt (lim_take t.lV m)
    rwa [List.length_take, Nat.min_eq_left (by have := t.hV; omega)] at this
  have h2 : val X < (q + 1) * val V := by
    rw [t.hq, Nat.add_mul, Nat.one_mul]
    have := Nat.div_add_mod (val X) (val V)
    have := Nat.mod_lt (val X) t.v_pos
    rw [Nat.mul_comm (val X / val V)]
    omega
  rw [val_top3 t.hX, val_top2 t.hV] at h2
  exact guess_le h1 h2 h (by have := t.big; omega)
/-- The test of the guess with three digits says yes: the guess is too great. -/
theorem Top.down {X V : List Nat} {m q g r : Nat} (t : Top X V m q) (h : Guess q (nth X (m + 2) * 65536 + nth X (m + 1)) (nth V (m + 1)) g r) (hy : 65535 < g ∨ r * 65536 + nth X m < g * nth V m) : q + 1 ≤ g := by
  rcases hy with hy | hy
  · have := t.q_lt; omega
  · have h1 := t.q_le
    have h2 : g * (nth V (m + 1) * 65536 + nth V m) = (g * nth V (m + 1)) * 65536 + g * nth V m := by rw [Nat.mul_add, Nat.mul_assoc]
    rcases Nat.lt_or_ge q g with h3 | h3
    · exact h3
    · exfalso
      have h4 : g * (nth V (m + 1) * 65536 + nth V m) ≤ q * (nth V (m + 1) * 65536 + nth V m) := Nat.mul_le_mul_right _ h3
      have := h.1
      omega
/-- It says no: the guess is right or too great by one. -/
theorem Top.stop {X V : List Nat} {m q g r : Nat} (t : Top X V m q) (h : Guess q (nth X (m + 2) * 65536 + nth X (m + 1)) (nth V (m + 1)) g r) (h1 : g ≤ 65535) (h2 : g * nth V m ≤ r * 65536 + nth X m) : g ≤ q + 1 := by
  refine t.fin h1 ?_
  have h3 : g * (nth V (m + 1) * 65536 + nth V m) = (g * nth V (m + 1)) * 65536 + g * nth V m := by rw [Nat.mul_add, Nat.mul_assoc]
  have := h.1
  omega
theorem Top.step {X V : List Nat} {m q g r : Nat} (_t : Top X V m q) (h : Guess q (nth X (m + 2) * 65536 + nth X (m + 1)) (nth V (m + 1)) (g + 1) r) (hy : q ≤ g) : Guess q (nth X (m + 2) * 65536 + nth X (m + 1)) (nth V (m + 1)) g (r + nth V (m + 1)) := by
  have := h.1
  rw [Nat.add_mul, Nat.one_mul] at this
  exact ⟨by omega, hy⟩
/-- The rest has more than one digit: no more can be taken. -/
theorem Top.over {X V : List Nat} {m q g r : Nat} (t : Top X V m q) (h : Guess q (nth X (m + 2) * 65536 + nth X (m + 1)) (nth V (m + 1)) g r) (hr : 65535 < r) : g ≤ 65535 ∧ g ≤ q + 1 := by
  have h1 : g ≤ 65535 := by
    rcases Nat.lt_or_ge 65535 g with h2 | h2
    · exfalso
      have h3 : 65536 * nth V (m + 1) ≤ g * nth V (m + 1) := Nat.mul_le_mul_right _ h2
      have := h.1
      have := t.x_le
      have := lim_nth t.lX (m + 1)
      omega
    · exact h2
  refine ⟨h1, t.stop h h1 ?_⟩
  have h2 : g * nth V m ≤ 65535 * 65535 := Nat.mul_le_mul h1 (by have := lim_nth t.lV m; omega)
  omega
theorem Top.start {X V : List Nat} {m q : Nat} (t : Top X V m q) : Guess q (nth X (m + 2) * 65536 + nth X (m + 1)) (nth V (m + 1)) ((nth X (m + 2) * 65536 + nth X (m + 1)) / nth V (m + 1)) ((nth X (m + 2) * 65536 + nth X (m + 1)) % nth V (m + 1)) ∧ (nth X (m + 2) * 65536 + nth X (m + 1)) / nth V (m + 1) ≤ 65537 := by
  have hb := t.big
  refine ⟨⟨by rw [Nat.mul_comm]; exact Nat.div_add_mod _ _, ?_⟩, ?_⟩
  · have h1 := t.q_le
    rw [Nat.le_div_iff_mul_le (by omega)]
    have h2 : q * (nth V (m + 1) * 65536 + nth V m) = (q * nth V (m + 1)) * 65536 + q * nth V m := by rw [Nat.mul_add, Nat.mul_assoc]
    have := lim_nth t.lX m
    omega
  · have h1 := t.x_le
    have := lim_nth t.lX (m + 1)
    have h2 : (nth X (m + 2) * 65536 + nth X (m + 1)) / nth V (m + 1) < 65538 := by
      apply Nat.div_lt_of_lt_mul
      omega
    omega
/-- The product of the guess is taken away: what a borrow tells. -/
theorem Top.taken {X V Y : List Nat} {m q g neg : Nat} (t : Top X V m q) (h1 : q ≤ g) (h2 : g ≤ q + 1) (hn : neg ≤ 1) (hY : Y.length = m + 3) (lY : Lim Y) (h : val Y + g * val V = val X + 65536 ^ (m + 3) * neg) :
    (neg = 0 ∧ g = q ∧ val Y = val X % val V) ∨ (neg = 1 ∧ g = q + 1 ∧ val Y + val V = val X % val V + 65536 ^ (m + 3)) := by
  have h3 := val_lt lY
  rw [hY] at h3
  have h4 := Nat.div_add_mod (val X) (val V)
  have h5 := Nat.mod_lt (val X) t.v_pos
  rw [← t.hq, Nat.mul_comm] at h4
  rcases Nat.lt_or_ge q g with h6 | h6
  · have e : g = q + 1 := by omega
    right
    rw [e, Nat.add_mul, Nat.one_mul] at h
    have e2 : neg = 1 := by
      rcases Nat.lt_or_ge neg 1 with h7 | h7
      · have : neg = 0 := by omega
        subst this
        rw [Nat.mul_zero] at h
        omega
      · omega
    subst e2
    rw [Nat.mul_one] at h
    exact ⟨rfl, e, by omega⟩
  · have e : g = q := by omega
    left
    rw [e] at h
    have e2 : neg = 0 := by
      rcases Nat.lt_or_ge neg 1 with h7 | h7
      · omega
      · have : neg = 1 := by omega
        subst this
        rw [Nat.mul_one] at h
        omega
    subst e2
    rw [Nat.mul_zero] at h
    exact ⟨rfl, e, by omega⟩
theorem Top.back {X V Y : List Nat} {m q ov W : Nat} (_t : Top X V m q) (ho : ov ≤ 1) (hY : Y.length = m + 3) (lY : Lim Y) (hW : W + val V = val X % val V + 65536 ^ (m + 3)) (h : val Y + 65536 ^ (m + 3) * ov = W + val V) : val Y = val X % val V := by
  have h3 := val_lt lY
  rw [hY] at h3
  rcases Nat.lt_or_ge ov 1 with h7 | h7
  · have : ov = 0 := by omega
    subst this
    rw [Nat.mul_zero] at h
    omega
  · have : ov = 1 := by omega
    subst this
    rw [Nat.mul_one] at h
    omega

end Go.Proofs.YtlfeendebbidhaaDoor
