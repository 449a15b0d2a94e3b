/- The reference: times, over, made, Sign, Neg, Add, Sub, Mul, Cmp, Of. -/
import Derived.Test.YtffipjofefemiaaGreatDoorMR1
import Derived.Test.YtffipjofefemiaaGreatDoorMD
import Derived.Test.YtffipjofefemiaaGreatDoorMJ
import Derived.Deep.RegionLaw
import Derived.Deep.AppendLies
namespace Go.Proofs.YtffipjofefemiaaGreatDoor
open Go.RowKit Kb

/-- The state of a product: i rows are added. -/
def TmRel (a b i : Nat) (o : List Nat) : Prop := o.length = (dig a).length + (dig b).length + 1 ∧ Lim o ∧ val o = val ((dig a).take i) * b
/-- .. and k digits of the next one, with a carry. -/
def TrRel (a b i k : Nat) (o : List Nat) (cr : Nat) : Prop :=
  o.length = (dig a).length + (dig b).length + 1 ∧ Lim o ∧ cr ≤ 65535 ∧ val o + 65536 ^ (i + k) * cr = val ((dig a).take i) * b + 65536 ^ i * (nth (dig a) i * val ((dig b).take k))
theorem tm_start (a b : Nat) : TmRel a b 0 (List.replicate ((dig a).length + (dig b).length + 1) 0) := ⟨List.length_replicate, lim_replicate _, by rw [val_replicate]; simp [val]⟩
theorem tm_row {a b i : Nat} {o : List Nat} (h : TmRel a b i o) : TrRel a b i 0 o 0 := by
  obtain ⟨h1, h2, h3⟩ := h
  exact ⟨h1, h2, by omega, by rw [h3]; simp [val]⟩
theorem tr_sum {a b i k cr : Nat} {o : List Nat} (h : TrRel a b i k o cr) : nth o (i + k) + nth (dig a) i * nth (dig b) k + cr < 4294967296 := by
  have hx := lim_nth (lim_dig a) i
  have hy := lim_nth (lim_dig b) k
  have hz := lim_nth h.2.1 (i + k)
  have hc := h.2.2.1
  have : nth (dig a) i * nth (dig b) k ≤ 65535 * 65535 := Nat.mul_le_mul (by omega) (by omega)
  omega
theorem tr_next {a b i k cr s : Nat} {o : List Nat} (h : TrRel a b i k o cr) (hik : i + k < (dig a).length + (dig b).length + 1) (hs : s = nth o (i + k) + nth (dig a) i * nth (dig b) k + cr) :
    TrRel a b i (k + 1) (o.set (i + k) (s % 65536)) (s / 65536) := by
  have hss := tr_sum h
  obtain ⟨h1, h2, h3, h4⟩ := h
  rw [show s = cr + nth (dig a) i * nth (dig b) k + nth o (i + k) by omega] at *
  refine ⟨by rw [List.length_set, h1], lim_set h2 (by omega), by omega, ?_⟩
  rw [val_take_succ']
  exact mul_step (by omega) h4
theorem tr_stop {a b i k cr : Nat} {o : List Nat} (h : TrRel a b i k o cr) (hc : 0 < cr) : k ≤ (dig b).length := by
  obtain ⟨h1, h2, h3, h4⟩ := h
  rcases Nat.lt_or_ge (dig b).length k with hk | hk
  · exfalso
    rw [val_take_ge (l := dig b) (by omega), val_dig] at h4
    have e1 : val ((dig a).take i) * b + 65536 ^ i * (nth (dig a) i * b) = val ((dig a).take (i + 1)) * b := by
      rw [val_take_succ', Nat.add_mul, Nat.mul_assoc]
    have e2 : val ((dig a).take (i + 1)) < 65536 ^ (i + 1) := Nat.lt_of_lt_of_le (val_lt (lim_take (lim_dig a) _)) (Nat.pow_le_pow_right (by decide) (by rw [List.length_take]; omega))
    have e3 : b < 65536 ^ (dig b).length := lt_of_dig_length (Nat.le_refl _)
    have e4 : val ((dig a).take (i + 1)) * b < 65536 ^ (i + 1) * 65536 ^ (dig b).length := Nat.mul_lt_mul'' e2 e3
    rw [← Nat.pow_add] at e4
    have e5 : 65536 ^ (i + 1 + (dig b).length) ≤ 65536 ^ (i + k) := Nat.pow_le_pow_right (by decide) (by omega)
    have e6 : 65536 ^ (i + k) ≤ 65536 ^ (i + k) * cr := Nat.le_mul_of_pos_right _ hc
    omega
  · exact hk
theorem tr_done {a b i k : Nat} {o : List Nat} (h : TrRel a b i k o 0) (hk : (dig b).length ≤ k) : TmRel a b (i + 1) o := by
  obtain ⟨h1, h2, h3, h4⟩ := h
  refine ⟨h1, h2, ?_⟩
  rw [val_take_ge (l := dig b) hk, val_dig, Nat.mul_zero, Nat.add_zero] at h4
  rw [h4, val_take_succ', Nat.add_mul, Nat.mul_assoc]
theorem tm_done {a b : Nat} {o : List Nat} (h : TmRel a b (dig a).length o) : val o = a * b := by rw [h.2.2, val_take_ge (Nat.le_refl _), val_dig]
theorem Ls.of_row {w : World} {g : Nat} {t : TypeId} {o : List Nat} (h : Row w g t .i64 o) (hl : o.length ≤ 1000000000) : Ls w (.slice (some ⟨g, 0, none⟩) o.length o.length) o := ⟨_, _, rfl, h.sl, Nat.le_refl _, by unfold maxLen; omega, fun e => by cases e⟩
theorem wrap_i (z : Int) (h : 0 ≤ z) (h' : z ≤ 9223372036854775807) : IntKind.i64.wrap z = z := by rw [IntKind.wrap_i64]; omega

set_option maxRecDepth 100000 in
set_option maxHeartbeats 8000000 in
theorem rtimes (v u : Value) (a b : Nat) (w : World) (hv : Nt w v a) (hu : Nt w u b) (hla : (dig a).length ≤ 400000) (hlb : (dig b).length ≤ 400000) :
    Calls Tryz.prog 108 #[v, u] w fun e w' => ∃ z, e = .returned z ∧ Nt w' z (a * b) ∧ Below w.heap.size w w' := by
  obtain ⟨i0, hi, hz0, hz1, hz2⟩ := info_parts Tryz.infoInt
  have hmk := fun w => run_make_rowOf (P := Tryz.prog) 80 3 i0 .i64 (((dig a).length : Int) + ((dig b).length : Int) + 1) ((dig a).length + (dig b).length + 1) w Tryz.underlying80 hi hz0 hz1 (by omega) (by omega) (by omega)
  clear hi hz0 hz1 hz2
  obtain ⟨A, c, rfl, hs, hlc, -⟩ := id hv
  obtain ⟨B, d, rfl, -⟩ := id hu
  go_enter Tryz.func108, Tryz.ntmps108
  go_wp2
  clear hmk
  go_loopw [6] (fun iv wr => ∃ (i : Nat) (o : List Nat), i ≤ (dig a).length ∧ iv = .int .i64 i ∧ TmRel a b i o ∧ Row wr w.heap.size 3 .i64 o ∧ Below w.heap.size w wr) (fun iv _ => (dig a).length - (intOf iv).toNat)
  case atStart => exact ⟨0, _, Nat.zero_le _, rfl, tm_start a b, Row.new _ _ _ _, (Below.refl _ _).alloc (Nat.le_refl _) _⟩
  case round =>
    obtain ⟨i, o, hi, rfl, hr, hrow, hbel⟩ := hrel
    by_cases hlt : i < (dig a).length
    · have Hr := hid (tm_row hr)
      clear hr
      go_wp2
      go_loopw [7, 8] (fun cv kv wi => ∃ (k cr : Nat) (o : List Nat), k ≤ (dig b).length + 1 ∧ cv = .int .i64 cr ∧ kv = .int .i64 k ∧ TrRel a b i k o cr ∧ Row wi w.heap.size 3 .i64 o ∧ Below w.heap.size w wi) (fun _ kv _ => (dig b).length + 1 - (intOf kv).toNat)
      case atStart => exact ⟨0, 0, o, Nat.zero_le _, rfl, rfl, Hr.out, hrow, hbel⟩
      case round =>
        obtain ⟨k, cr, o', hk, rfl, rfl, hq, hrw, hbl⟩ := hrel
        have hcr := hq.2.2.1
        by_cases hC : k < (dig b).length ∨ 0 < cr
        · have hkb : k ≤ (dig b).length := by
            rcases hC with h | h
            · omega
            · exact tr_stop hq h
          have hC' : (k < (dig b).length) ∨ (¬ k < (dig b).length ∧ 0 < cr) := by omega
          obtain ⟨ad, rfl, hb1, hcell⟩ := (hs.below hbl) i hlt
          obtain ⟨x, hx⟩ : ∃ x, x = nth (dig a) i := ⟨_, rfl⟩
          obtain ⟨y, hy⟩ : ∃ y, y = nth (dig b) k := ⟨_, rfl⟩
          obtain ⟨z, hz⟩ : ∃ z, z = nth o' (i + k) := ⟨_, rfl⟩
          obtain ⟨m, hm⟩ : ∃ m, m = x * y := ⟨_, rfl⟩
          obtain ⟨s, hs'⟩ : ∃ s, s = z + m + cr := ⟨_, rfl⟩
          have lx : x < 65536 := by rw [hx]; exact lim_nth (lim_dig a) i
          have ly : y < 65536 := by rw [hy]; exact lim_nth (lim_dig b) k
          have lz : z < 65536 := by rw [hz]; exact lim_nth hq.2.1 (i + k)
          have lm : m ≤ 4294836225 := by rw [hm]; exact Nat.mul_le_mul (show x ≤ 65535 by omega) (show y ≤ 65535 by omega)
          have hn := hid (tr_next hq (s := s) (by omega) (by rw [hs', hm, hx, hy, hz]))
          have hol := hq.1
          have hold := hrw.cell (i := i + k) (by omega)
          rw [← hz] at hold
          rw [← hx] at hcell
          have hfr := hrw.frozen (i + k)
          have D2 := hid (show ∀ n, Calls Tryz.prog 132 #[.slice B (dig b).length d, .int .i64 k] (wr.drewN n) fun e w' => e = .returned (.int .i64 y) ∧ wr.drewN n = w' from fun n => by
            have := rdigit _ _ k (wr.drewN n) (hu.below (hbl.drewN' n)) (by omega)
            rw [← hy] at this; exact this)
          have Hm := hid hm
          have Hs := hid hs'
          have Hol := hid hol
          have Hi := hid hi
          have hidx : (i : Int) + (k : Int) < (((dig a).length + (dig b).length + 1 : Nat) : Int) := by omega
          have hidx1 : (i : Int) + (k : Int) < ((dig a).length : Int) + ((dig b).length : Int) + 1 := by omega
          have hidx2 : (i : Int) < ((dig a).length : Int) := by omega
          have hrs := hid (show ((z : Int) + (m : Int) + (cr : Int)) % 65536 = ((s % 65536 : Nat) : Int) by omega)
          have hrd := hid (show ((z : Int) + (m : Int) + (cr : Int)) / 65536 = ((s / 65536 : Nat) : Int) by omega)
          have b1 : (0 : Int) ≤ (x : Int) * (y : Int) := by rw [← Int.natCast_mul]; omega
          have em := hid (show (x : Int) * (y : Int) = (m : Int) by rw [hm, Int.natCast_mul])
          have f1 : IntKind.i64.wrap ((i : Int) + (k : Int)) = (i : Int) + (k : Int) := wrap_i _ (by omega) (by omega)
          have f2 : (0 : Int) ≤ (i : Int) + (k : Int) := by omega
          have f3 : ((i : Int) + (k : Int)).toNat = i + k := by omega
          have f4 : IntKind.i64.wrap ((x : Int) * (y : Int)) = (m : Int) := by rw [em.out]; exact wrap_i _ (by omega) (by omega)
          have f5 : IntKind.i64.wrap ((z : Int) + (m : Int)) = (z : Int) + (m : Int) := wrap_i _ (by omega) (by omega)
          have f6 : IntKind.i64.wrap ((z : Int) + (m : Int) + (cr : Int)) = (z : Int) + (m : Int) + (cr : Int) := wrap_i _ (by omega) (by omega)
          clear hC hx hy hz hm hs' hol
          rcases hC' with h | ⟨h, h'⟩
          all_goals
            go_wp2
            go_quiet ((go_at_call 132; exact quiet_left (D2.out _)))
            have hrw' : Row (wr.drewN nq) w.heap.size 3 .i64 o' := hrw
            have hbl' := hid (hbl.drewN' nq)
            have hold' : (wr.drewN nq).cell? ⟨w.heap.size, i + k, none⟩ = _ := hold
            have hfr' : (wr.drewN nq).frozen? ⟨w.heap.size, i + k, none⟩ = false := hfr
            have hrow1 := hid (show Row ((wr.drewN nq).setCell ⟨w.heap.size, i + k, none⟩ (.int .i64 (((z : Int) + (m : Int) + (cr : Int)) % 65536))) w.heap.size 3 .i64 (o'.set (i + k) (s % 65536)) from by
              rw [hrs.out]; exact hrw'.set (i + k) (s % 65536))
            clear f1 f2 f3 f4 f5 f6 hold hfr hrw hbl hcell hb1 D2 hrw' b1
            generalize wr.drewN nq = wq at *
            go_wp2
            go_roundw
            case rel => exact ⟨k + 1, s / 65536, _, by omega, val_int hrd.out, by go_num, hn.out, hrow1.out, hbl'.out.setCell (p := ⟨w.heap.size, i + k, none⟩) (Nat.le_refl _) _⟩
            case measure => simp [intOf]; omega
        · obtain rfl : cr = 0 := by omega
          have hk1 : ¬ k < (dig b).length := by omega
          have hd := hid (tr_done hq (by omega))
          clear hC hq
          go_wp2
          go_roundw
          case rel => exact ⟨i + 1, o', hlt, by go_num, hd.out, hrw, hbl⟩
          case measure => simp [intOf]; omega
    · obtain rfl : i = (dig a).length := by omega
      have hval := tm_done hr
      have hol := hr.1
      have hL := Ls.of_row hrow (by omega)
      have hT := rtrim _ o wr hL hr.2.1 (by omega)
      rw [hval, hol] at hT
      have HT := hid hT
      clear hval hol hL hT hr hrow
      go_wp2_with fail
      refine HT.out.mono ?_
      rintro e w2 ⟨z, rfl, hz, -, hb2⟩
      have hB := bthen hbel hb2 (Nat.le_refl _)
      clear hb2 hbel
      go_wp2
      go_ret
      exact ⟨z, rfl, hz, hB⟩

end Go.Proofs.YtffipjofefemiaaGreatDoor

namespace Go.Proofs.YtffipjofefemiaaGreatDoor
open Go.RowKit Kb

/-- append(s, x...) onto a row of the call's own: x nil, empty or not. -/
theorem wpList_append_ls {w : World} {ops : Array Oper} {rest : List Oper} {o : Oper} {a : Act} {Q : Exit → Act → World → Prop} (hgd : o.guard = none) (s x : Operand) (t : TypeId)
    (ho : o.op = .call { callee := .builtin .append, args := #[s, x], argTypes := #[t, t] }) (base : Nat) (i0 : TypeInfo) (ht : Tryz.prog.underlying t = some (.slice 3)) (hi : Tryz.prog.info? 3 = some i0) (hz0 : i0.zero = some (.int .i64 0)) (hz1 : i0.size = 1) (hz2 : i0.bytes = 8)
    (v : Value) (n : Nat) (xs : List Nat) (hs : a.eval s = v) (hown : w.ownsRow base 3 1 v n (vals .i64 xs)) (u : Value) (ys : List Nat) (hx : a.eval x = u) (hu : Ls w u ys) (hn : n + ys.length ≤ 1000000000) (hbase : base ≤ w.heap.size)
    (h : ∀ v' w', w'.ownsRow base 3 1 v' (n + ys.length) (vals .i64 (xs ++ ys)) → w.grownBy w' v.ownBlock → wpList Tryz.prog ops Q rest (a.put o.dst v') w') : wpList Tryz.prog ops Q (o :: rest) a w := by
  obtain ⟨A, c, rfl, hsl, hl, hc, hA⟩ := hu
  rcases A with _ | ad
  · obtain rfl := hA rfl
    have hys : ys = [] := List.eq_nil_of_length_eq_zero (by omega)
    subst hys
    exact wpList_append_own_none hgd s x t ho base 3 i0 1 ht hi v n (vals .i64 xs) hs hown hx (h v w (by simpa using hown) (World.grownBy.refl _ _))
  · refine wpList_append_own w hgd s x t ho base 3 i0 (.int .i64 0) 1 8 ht hi hz0 hz1 hz2 rfl (by decide) v n (vals .i64 xs) hs hown ad ys.length c (vals .i64 ys) hx (by rw [vals_length, Nat.mul_one]) hsl.cells (vals_one _ _) (by unfold maxLen; omega) (by omega) hbase ?_
    intro v' w' h1 h2 _
    exact h v' w' (by rw [show vals .i64 (xs ++ ys) = vals .i64 xs ++ vals .i64 ys by simp [vals]]; exact h1) h2

theorem Nt.off {w w' : World} {v : Value} {a g : Nat} (h : Nt w v a) (hf : Fs (g + 1) v) (hb : w.grownBy w' (some g)) : Nt w' v a := by
  obtain ⟨A, c, rfl, h1, h2⟩ := h
  refine ⟨A, c, rfl, h1.grown hb (fun ad e _ h => ?_), h2⟩
  have := hf ad _ _ (by rw [e])
  injection h with h
  omega
/-- The state of a division: the digits from k on are divided. -/
def OvRel (a b k : Nat) (q : List Nat) (r : Nat) : Prop := q.length = (dig a).length ∧ Lim q ∧ val (q.drop k) * b + r = val ((dig a).drop k) ∧ r < b
theorem ov_start {a b : Nat} (hb : 0 < b) : OvRel a b (dig a).length (List.replicate (dig a).length 0) 0 :=
  ⟨List.length_replicate, lim_replicate _, by rw [List.drop_of_length_le (by simp), List.drop_of_length_le (Nat.le_refl _)]; simp [val], hb⟩
theorem ov_lt {a b k r x : Nat} {q : List Nat} (h : OvRel a b k q r) (hx : x < 65536) : (x + 65536 * r) / b < 65536 := by
  obtain ⟨h1, h2, h3, h4⟩ := h
  rw [Nat.div_lt_iff_lt_mul (by omega)]
  have : 65536 * r + 65536 ≤ 65536 * b := by omega
  omega
theorem ov_next {a b k r : Nat} {q : List Nat} (h : OvRel a b (k + 1) q r) (hk : k < (dig a).length) :
    OvRel a b k (q.set k ((nth (dig a) k + 65536 * r) / b)) ((nth (dig a) k + 65536 * r) % b) := by
  have hlt := ov_lt h (lim_nth (lim_dig a) k)
  obtain ⟨h1, h2, h3, h4⟩ := h
  refine ⟨by rw [List.length_set, h1], lim_set h2 hlt, ?_, Nat.mod_lt _ (by omega)⟩
  rw [drop_set_self (by omega), val_drop_nth hk, ← h3]
  generalize hs : nth (dig a) k + 65536 * r = s at *
  have e := Nat.div_add_mod s b
  simp only [val]
  generalize s / b = d at *
  generalize val (List.drop (k + 1) q) = V at *
  rw [Nat.add_mul, Nat.mul_comm d b, Nat.mul_assoc 65536 V b]
  generalize b * d = bd at *
  generalize V * b = Vb at *
  omega
theorem ov_done {a b r : Nat} {q : List Nat} (h : OvRel a b 0 q r) : val q = a / b ∧ r = a % b := by
  obtain ⟨h1, h2, h3, h4⟩ := h
  rw [List.drop_zero, List.drop_zero, val_dig] at h3
  have hb : 0 < b := by omega
  refine ⟨?_, ?_⟩
  · rw [← h3, Nat.mul_comm, Nat.mul_add_div hb, Nat.div_eq_of_lt h4, Nat.add_zero]
  · rw [← h3, Nat.mul_comm, Nat.mul_add_mod, Nat.mod_eq_of_lt h4]

theorem al1' (W : World) (o : Obj) : Below W.heap.size W (W.alloc o) := (Below.refl _ _).alloc (Nat.le_refl _) o
theorem own_one (w : World) (base : Nat) (hb : base ≤ w.heap.size) (x : Nat) : (w.alloc (.cells #[.int .i64 (x : Int)] 3)).ownsRow base 3 1 (.slice (some ⟨w.heap.size, 0, none⟩) 1 1) 1 (vals .i64 [x]) :=
  ⟨rfl, .inr ⟨_, 1, _, rfl, hb, heap_alloc_new w _, Nat.le_refl _, by unfold maxLen; omega, rfl, rfl⟩⟩
theorem nt_one (w : World) (m : Nat) (h0 : m ≠ 0) (h : m < 65536) : Nt (w.alloc (.cells #[.int .i64 (m : Int)] 3)) (.slice (some ⟨w.heap.size, 0, none⟩) 1 1) m := by
  unfold Nt
  rw [dig_small h0 h]
  exact Ls.of_row (o := [m]) (Row.new w 3 .i64 [m]) (by simp)

set_option maxRecDepth 100000 in
set_option maxHeartbeats 8000000 in
theorem rover (v u : Value) (a b : Nat) (w : World) (hv : Nt w v a) (hu : Nt w u b) (hb0 : b ≠ 0) (hla : (dig a).length ≤ 300000) (hlb : (dig b).length ≤ 300000) :
    Calls Tryz.prog 66 #[v, u] w fun e w' => ∃ q r, e = .returned (.tuple #[q, r]) ∧ Nt w' q (a / b) ∧ Nt w' r (a % b) ∧ Below w.heap.size w w' := by
  obtain ⟨i0, hi, hz0, hz1, hz2⟩ := info_parts Tryz.infoInt
  have hmk := fun w => run_make_rowOf (P := Tryz.prog) 80 3 i0 .i64 ((dig a).length : Int) (dig a).length w Tryz.underlying80 hi hz0 hz1 rfl (by omega) (by omega)
  obtain ⟨A, c, rfl, hs, hlc, -⟩ := id hv
  obtain ⟨B, d, rfl, -⟩ := id hu
  have Hb0 := hid hb0
  clear hb0
  go_enter Tryz.func66, Tryz.ntmps66
  go_wp2
  clear hmk
  go_loopw [6, 8] (fun rv iv wr => ∃ (k r : Nat) (q : List Nat) (vv : Value), vv = rv ∧ k ≤ (dig a).length ∧ iv = .int .i64 ((k : Int) - 1) ∧ OvRel a b k q r ∧ Nt wr vv r ∧ Fs (w.heap.size + 1) vv ∧ Row wr w.heap.size 3 .i64 q ∧ Below w.heap.size w wr) (fun _ iv _ => (intOf iv + 1).toNat)
  case atStart => exact ⟨(dig a).length, 0, _, _, rfl, Nat.le_refl _, by go_num, ov_start (Nat.pos_of_ne_zero Hb0.out), by unfold Nt; rw [dig_zero]; exact Ls.nil _, (fun _ _ _ e => by cases e), Row.new _ _ _ _, (Below.refl _ _).alloc (Nat.le_refl _) _⟩
  case round =>
    obtain ⟨k, r, q, rv, hvv, hk, rfl, hq, hrv, hfv, hrow, hbel⟩ := hrel
    subst hvv
    by_cases h0 : 0 < k
    · obtain ⟨j, rfl⟩ : ∃ j, k = j + 1 := ⟨k - 1, by omega⟩
      obtain ⟨ad, rfl, hb1, hcell⟩ := (hs.below hbel) j (by omega)
      obtain ⟨x, hx⟩ : ∃ x, x = nth (dig a) j := ⟨_, rfl⟩
      have lx : x < 65536 := by rw [hx]; exact lim_nth (lim_dig a) j
      rw [← hx] at hcell
      obtain ⟨s, hs'⟩ : ∃ s, s = x + 65536 * r := ⟨_, rfl⟩
      obtain ⟨T, hT⟩ : ∃ T, T = s / b := ⟨_, rfl⟩
      have lT : T < 65536 := by rw [hT, hs']; exact ov_lt hq lx
      have hn := ov_next hq (k := j) (by omega)
      rw [← hx, ← hs', ← hT] at hn
      have Hn := hid hn
      have hrb : r < b := hq.2.2.2
      have lb1 : b < 65536 ^ (dig b).length := lt_of_dig_length (Nat.le_refl _)
      have lr : (dig r).length ≤ (dig b).length := dig_length_mono (by omega)
      have ls : (dig s).length ≤ (dig b).length + 1 := dig_length_le (by rw [Nat.pow_succ]; omega)
      have hvs : val (x :: dig r) = s := by rw [hs']; simp only [val]; rw [val_dig]
      have hdm := Nat.div_add_mod s b
      rw [← hT] at hdm
      have HS := hid (show T = s / b ∧ b * T + s % b = s ∧ val (x :: dig r) = s ∧ r < b ∧ b < 65536 ^ (dig b).length from ⟨hT, hdm, hvs, hrb, lb1⟩)
      have Hsx := hid (show s = x + 65536 * r from hs')
      have hql := hid hq.1
      have hqk : j < q.length := by rw [hql.out]; omega
      have hsz := hbel.size
      clear hx hs' hT hn hrb lb1 hvs hdm hq
      have hidx : ((j : Int) + 1 - 1) = (j : Int) := by omega
      rw [show (((j + 1 : Nat) : Int) - 1) = (j : Int) by omega]
      clear hidx
      have hown := own_one wr w.heap.size hsz x
      have hru := hrv.below (al1' wr (.cells #[.int .i64 (x : Int)] 3))
      go_wp2_with (at_builtin; (refine wpList_append_ls rfl (.tmp 26) (.tmp 27) 80 rfl w.heap.size i0 Tryz.underlying80 hi hz0 hz1 hz2 _ 1 [x] rfl hown rv (dig r) rfl hru (by omega) (by simp; omega) ?_))
      intro v' w1 hown1 hgrow1
      have hl1 := hown.lt
      have hb2 := ((hbel.alloc hsz (.cells #[.int .i64 (x : Int)] 3)).grown hgrow1 (by simp; omega) (fun k hk => (hl1 k hk).1))
      have hrow1 : Row w1 w.heap.size 3 .i64 q := (hrow.alloc _).grown hgrow1 (fun e => by simp [Value.ownBlock] at e; have := hrow.lt; omega)
      have hLs : Ls w1 v' (x :: dig r) := Ls.of_own hown1
      have hlim : Lim (x :: dig r) := lim_cons.2 ⟨lx, lim_dig r⟩
      have hT := rtrim v' (x :: dig r) w1 hLs hlim (by simp; omega)
      rw [HS.out.2.2.1] at hT
      have HT := hid hT
      clear hown hown1 hgrow1 hl1 hLs hlim hT hru hrow hrv hbel hcell hb1 hsz
      go_wp2_with fail
      refine HT.out.mono ?_
      rintro e w2 ⟨rs, rfl, hrs, hfs0, hb3⟩
      have hfs : Fs (w.heap.size + 1) rs := hfs0.mono hrow1.lt
      have hrow2 := hrow1.below hb3 hrow1.lt
      have hbel2 := bthen hb2 hb3 (Nat.le_refl _)
      clear HT hb3 hrow1 hb2
      go_wp2
      go_loopw [9, 10] (fun lv hv wr => ∃ lo hi : Nat, lv = .int .i64 lo ∧ hv = .int .i64 hi ∧ lo ≤ T ∧ T ≤ hi ∧ hi ≤ 65535 ∧ Below w2.heap.size w2 wr) (fun lv hv _ => (intOf hv - intOf lv).toNat)
      case atStart => exact ⟨0, 65535, rfl, rfl, Nat.zero_le _, by omega, Nat.le_refl _, Below.refl _ _⟩
      case round =>
        obtain ⟨lo, hi', rfl, rfl, hlo, hhi, hmax, hbi⟩ := hrel
        by_cases hlt : lo < hi'
        · obtain ⟨m, hm⟩ : ∃ m, m = (lo + hi' + 1) / 2 := ⟨_, rfl⟩
          have em := hid (show ((lo : Int) + (hi' : Int) + 1) / 2 = (m : Int) by omega)
          have m0 : m ≠ 0 := by omega
          have m1 : m < 65536 := by omega
          have mlo : lo < m := by omega
          have mhi : m ≤ hi' := by omega
          have Hm := hid hm
          clear hm
          have hub := (((hu.below hbel2).below hbi).below (al1' wr (.cells #[.int .i64 (m : Int)] 3)))
          have hmt := nt_one wr m m0 m1
          have ht := rtimes _ _ b m _ hub hmt (by omega) (by rw [dig_small m0 m1]; simp)
          have Ht := hid ht
          clear hub hmt ht m0
          go_wp2_with fail
          rw [em.out]
          refine Ht.out.mono ?_
          rintro e w3 ⟨pv, rfl, hp, hb4⟩
          have hbi3 := bthen (bthen hbi (al1' wr (.cells #[.int .i64 (m : Int)] 3)) (Nat.le_refl _)) hb4 (Nat.le_refl _)
          have lp : (dig (b * m)).length ≤ (dig b).length + 1 := dig_length_le (by
            rw [Nat.pow_succ]; exact Nat.mul_lt_mul'' HS.out.2.2.2.2 m1)
          have hc := rcompare pv rs (b * m) s w3 hp (hrs.below hbi3) (by omega) (by omega)
          have Hc := hid hc
          clear hc Ht hb4 hbi lp
          go_wp2_with fail
          refine Hc.out.mono ?_
          rintro e w4 ⟨cr, rfl, hsg, hb5⟩
          have hbi5 := bthen hbi3 hb5 (Nat.le_refl _)
          clear Hc hb5 hbi3 hp
          have hpos : 0 < b := by have := HS.out.2.2.2.1; omega
          by_cases hle : b * m ≤ s
          · have hcr : cr ≤ 0 := by
              rcases Nat.lt_or_eq_of_le hle with h | h
              · have := hsg.1 h; omega
              · have := hsg.2.1 h; omega
            have hmT : m ≤ T := by
              rw [HS.out.1, Nat.le_div_iff_mul_le hpos, Nat.mul_comm]; exact hle
            clear hle hsg
            go_wp2
            go_roundw
            case rel => exact ⟨m, hi', rfl, rfl, hmT, hhi, hmax, hbi5⟩
            case measure => simp [intOf]; have := em.out; omega
          · have hcr : ¬ cr ≤ 0 := by have := hsg.2.2 (by omega); omega
            have hmT : T ≤ m - 1 := by
              have : T < m := by rw [HS.out.1, Nat.div_lt_iff_lt_mul hpos, Nat.mul_comm]; omega
              omega
            clear hle hsg
            go_wp2
            go_roundw
            case rel => exact ⟨lo, m - 1, rfl, val_int (by have := em.out; omega), hlo, hmT, by omega, hbi5⟩
            case measure => simp [intOf]; have := em.out; omega
        · obtain rfl : lo = T := by omega
          have hbW := hid (bthen hbel2 hbi (Nat.le_refl _))
          have hrow3 := hrow2.below hbi hrow2.lt
          have hold := hrow3.cell (i := j) hqk
          have hfr := hrow3.frozen j
          have hrow4 := hid (hrow3.set j lo)
          have hidx2 : (j : Int) < ((dig a).length : Int) := by have := hql.out; omega
          have hrs3 := hrs.below hbi
          have hrs4 := hrs3.off hfs (gb_set (World.grownBy.refl wr _) j (.int .i64 (lo : Int)))
          have hbW4 := hid (hbW.out.setCell (p := ⟨w.heap.size, j, none⟩) (Nat.le_refl _) (.int .i64 (lo : Int)))
          have hub4 := hu.below hbW4.out
          by_cases hl0 : 0 < lo
          · have hnt := nt_one (wr.setCell ⟨w.heap.size, j, none⟩ (.int .i64 (lo : Int))) lo (by omega) (by omega)
            rw [show (wr.setCell ⟨w.heap.size, j, none⟩ (.int .i64 (lo : Int))).heap.size = wr.heap.size by simp [World.setCell]] at hnt
            have ht := rtimes _ _ b lo _ (hub4.below (al1' _ (.cells #[.int .i64 (lo : Int)] 3))) hnt (by omega) (by rw [dig_small (by omega) (by omega)]; simp)
            have Ht := hid ht
            clear ht hnt hub4 hrs3 hrow3 hrow2 hbi
            go_wp2_with fail
            generalize wr.setCell ⟨w.heap.size, j, none⟩ (.int .i64 (lo : Int)) = wk at *
            with_reducible refine Ht.out.mono ?_
            rintro e w5 ⟨pv, rfl, hp, hb6⟩
            have hb7 := bthen (al1' wk (.cells #[.int .i64 (lo : Int)] 3)) hb6 (Nat.le_refl _)
            have hle : b * lo ≤ s := by have := HS.out.2.1; omega
            have hmin := rminus rs pv s (b * lo) w5 (hrs4.below hb7) hp hle (by omega) (Nat.le_trans (dig_length_mono hle) (by omega))
            rw [show s - b * lo = s % b by have := HS.out.2.1; omega] at hmin
            have Hmin := hid hmin
            have hrow5 := hrow4.out.below hb7 hrow4.out.lt
            have hB5 := bthen hbW4.out hb7 (Nat.le_refl _)
            clear hmin hle Ht hb6 hp hrs4 hb7
            go_wp2_with fail
            refine Hmin.out.mono ?_
            rintro e w6 ⟨z, rfl, hz, hf, hb8⟩
            have hrow6 := hrow5.below hb8 hrow5.lt
            have hB6 := bthen hB5 hb8 (Nat.le_refl _)
            have hf6 : Fs (w.heap.size + 1) z := hf.mono hrow5.lt
            clear Hmin hrow5 hB5 hb8 hf
            go_wp2
            go_roundw
            case rel => exact ⟨j, s % b, _, z, rfl, by omega, rfl, Hn.out, hz, hf6, hrow6, hB6⟩
            case measure => simp [intOf]
          · obtain rfl : lo = 0 := by omega
            have hs0 : s % b = s := by
              have := HS.out.2.1
              omega
            have Hs0 := hid hs0
            clear hs0 hub4 hrs3 hrow3 hrow2 hbi
            go_wp2
            go_roundw
            case rel => exact ⟨j, s % b, _, rs, rfl, by omega, rfl, Hn.out, by rw [Hs0.out]; exact hrs4, hfs, hrow4.out, hbW4.out⟩
            case measure => simp [intOf]
    · obtain rfl : k = 0 := by omega
      obtain ⟨e1, e2⟩ := ov_done hq
      have hol := hq.1
      have hL := Ls.of_row hrow (by omega)
      have hT := rtrim _ q wr hL hq.2.1 (by omega)
      rw [e1, hol] at hT
      rw [e2] at hrv
      have HT := hid hT
      clear e1 e2 hol hL hT hq hrow
      go_wp2_with fail
      refine HT.out.mono ?_
      rintro e w2 ⟨z, rfl, hz, -, hb2⟩
      have hB := bthen hbel hb2 (Nat.le_refl _)
      have hrv2 := hrv.below hb2
      clear hb2 hbel hrv
      go_wp2
      go_ret2
      exact ⟨z, rv, rfl, hz, hrv2, hB⟩

end Go.Proofs.YtffipjofefemiaaGreatDoor

namespace Go.Proofs.YtffipjofefemiaaGreatDoor
open Go.RowKit Kb

theorem Bk.put1 {w : World} {g : Nat} {a b : Value} {T : TypeId} (h : Bk w g (.cells #[a, b] T (0, 0))) (x : Value) : Bk (w.setCell ⟨g, 1, none⟩ x) g (.cells #[a, x] T (0, 0)) := by
  unfold Bk at h ⊢
  simp only [World.setCell, Array.getElem?_modify, h]
  simp
theorem gb1 (w : World) (g i : Nat) (u : Value) : w.grownBy (w.setCell ⟨g, i, none⟩ u) (some g) := gb_set (World.grownBy.refl _ _) i u

set_option maxRecDepth 100000 in
set_option maxHeartbeats 8000000 in
theorem rmade (neg : Bool) (v : Value) (a : Nat) (w : World) (hv : Nt w v a) (hla : (dig a).length ≤ 1000000) :
    Calls Tryz.prog 64 #[.bool neg, v] w fun e w' => ∃ s A n c, e = .returned (.agg #[.bool s, .slice A n c]) ∧ Zn w' s A n c (toZ neg a) ∧ Below w.heap.size w w' := by
  obtain ⟨i0, hi, hz0, hz1, hz2⟩ := info_parts Tryz.info16
  obtain ⟨A, c, rfl, hs, hlc, -⟩ := id hv
  obtain ⟨s, hS⟩ : ∃ s, s = decide (toZ neg a < 0) := ⟨_, rfl⟩
  have hs2 : (neg = false ∧ s = false) ∨ (neg = true ∧ (dig a).length = 0 ∧ s = false) ∨ (neg = true ∧ 0 < (dig a).length ∧ s = true) := by
    cases neg
    · exact .inl ⟨rfl, by rw [hS]; exact decide_eq_false (by unfold toZ; rw [if_neg (by decide)]; omega)⟩
    · rcases Nat.eq_zero_or_pos (dig a).length with h | h
      · have : a = 0 := dig_nil_iff.1 (List.eq_nil_of_length_eq_zero h)
        exact .inr (.inl ⟨rfl, h, by rw [hS, this]; rfl⟩)
      · have : a ≠ 0 := fun e => by rw [e, dig_zero] at h; simp at h
        exact .inr (.inr ⟨rfl, h, by rw [hS]; exact decide_eq_true (by unfold toZ; rw [if_pos rfl]; omega)⟩)
  have HS := hid hS
  clear hS
  have hbel0 : Below w.heap.size w ((w.alloc (.cells #[.bool false, .slice none 0 0] 24)).alloc (.cells #[.bool s, .slice none 0 0] 24)) := below_two w _ _
  have j4 := box1 w (.cells #[.bool false, .slice none 0 0] 24) (.cells #[.bool s, .slice none 0 0] 24)
  have j5 := box2 w (.cells #[.bool false, .slice none 0 0] 24) (.cells #[.bool s, .slice none 0 0] 24)
  obtain ⟨g, hg⟩ : ∃ g, w.heap.size = g := ⟨_, rfl⟩
  rcases hs2 with ⟨rfl, rfl⟩ | ⟨rfl, h0, rfl⟩ | ⟨rfl, h0, rfl⟩
  · go_enter Tryz.func64, Tryz.ntmps64
    go_wp2
    rw [hg] at j4 j5
    generalize hW : (w.alloc (.cells #[.bool false, .slice none 0 0] 24)).alloc (.cells #[.bool false, .slice none 0 0] 24) = W0 at *
    clear hW
    go_loopw [6] (fun iv wr => ∃ (k : Nat) (V : Value), k ≤ (dig a).length ∧ iv = .int .i64 k ∧ Bk wr g (.cells #[.bool false, .slice none 0 0] 24) ∧ Bk wr (g + 1) (.cells #[.bool false, V] 24) ∧ wr.ownsRow (g + 2) 92 1 V k (vals .u16 ((dig a).take k)) ∧ Below w.heap.size w wr) (fun iv _ => (dig a).length - (intOf iv).toNat)
    case atStart => exact ⟨0, _, Nat.zero_le _, rfl, j4, j5, World.ownsRow_nil _ _ _ _, hbel0⟩
    case round =>
      obtain ⟨k, V, hk, rfl, q4, q5, hown, hbel⟩ := hrel
      by_cases hlt : k < (dig a).length
      · obtain ⟨ad, rfl, hb, hcell⟩ := (hs.below hbel) k hlt
        obtain ⟨x, hx⟩ : ∃ x, x = nth (dig a) k := ⟨_, rfl⟩
        have hx1 : x < 65536 := by rw [hx]; exact lim_nth (lim_dig a) k
        rw [← hx] at hcell
        have htk := hid (show (dig a).take (k + 1) = (dig a).take k ++ [x] by rw [hx, nth_eq hlt, List.take_succ_eq_append_getElem hlt])
        clear hx
        obtain ⟨y0, y1, y2, y3⟩ := q5.c2
        have hl5 := q5.lt
        have hl0 := hown.lt
        have hwr : IntKind.u16.wrap (x : Int) = (x : Int) := by rw [IntKind.wrap_u16]; omega
        have hszw := hid (show w.heap.size ≤ wr.heap.size ∧ w.heap.size ≤ g from ⟨hbel.size, by omega⟩)
        have q4d : Bk (wr.alloc (.cells #[.int .u16 (x : Int)] 92)).drew g _ := q4.alloc (.cells #[.int .u16 (x : Int)] 92)
        have q5d : Bk (wr.alloc (.cells #[.int .u16 (x : Int)] 92)).drew (g + 1) _ := q5.alloc (.cells #[.int .u16 (x : Int)] 92)
        have hbd := hid (hbel.alloc hbel.size (.cells #[.int .u16 (x : Int)] 92)).drew
        have Hg := hid hg
        have Hl0 := hid hl0
        have Hbel := hid hbel
        clear hg hl0 hbel
        go_wp2
        go_region_law ((refine step_append_lies _ (by rfl) _ _ _ (by rfl) (g + 2) 92 i0 (.int .u16 0) 1 2 Tryz.underlying22 hi hz0 hz1 hz2 rfl (by decide) V k (vals .u16 ((dig a).take k)) (by rfl) (hown.alloc _) ⟨wr.heap.size, 0, none⟩ 1 1 [.int .u16 (x : Int)] (by rfl) rfl (cell_one_new _ _ _) (one_cell (.int .u16 (x : Int)) rfl) (by decide) (by unfold maxLen; omega) (by omega) (by simp; omega) _ rfl ?_; intro g1 cap1 w1 hown1 hgrow1 hat1 hlt1; have e4 : Bk w1 g _ := (hgrow1.block g q4d.lt (fun e => by have := (Hl0.out g e.symm).1; omega)).trans q4d; have e5 : Bk w1 (g + 1) _ := (hgrow1.block (g + 1) q5d.lt (fun e => by have := (Hl0.out (g + 1) e.symm).1; omega)).trans q5d; obtain ⟨z0, z1, z2, z3⟩ := e5.c2))
        all_goals
          have hB1 := hid ((hbd.out.grown hgrow1 (by have := hszw.out; show w.heap.size ≤ (wr.alloc _).heap.size; simp; omega) (fun k hk => by have := (Hl0.out k hk).1; have := hszw.out; omega)).setCell (p := ⟨g + 1, 1, none⟩) (by have := hszw.out; show w.heap.size ≤ g + 1; omega) (.slice (some ⟨g1, 0, none⟩) (k + 1) cap1))
          have E4 := hid (e4.set (p := ⟨g + 1, 1, none⟩) (show g ≠ g + 1 by omega) (.slice (some ⟨g1, 0, none⟩) (k + 1) cap1))
          have E5 := hid (e5.put1 (.slice (some ⟨g1, 0, none⟩) (k + 1) cap1))
          rw [vals_snoc .u16 ((dig a).take k) x _ rfl, ← htk.out] at hown1
          have hO := hid (hown1.kept (gb1 w1 (g + 1) 1 (.slice (some ⟨g1, 0, none⟩) (k + 1) cap1)) (.inr (fun e => by have := (hown1.lt g1 rfl).1; simp [Value.ownBlock] at e; omega)))
          clear hown1 hgrow1 hat1 hlt1 e4 e5 z0 z1 z2 z3 y0 y1 y2 y3 q4 q5 q4d q5d hown hcell hb hwr hl5
          go_wp2
          go_roundw
          case rel => exact ⟨k + 1, _, hlt, by go_num, E4.out, E5.out, hO.out, hB1.out⟩
          case measure => simp [intOf]; omega
      · obtain rfl : k = (dig a).length := by omega
        rw [List.take_of_length_le (Nat.le_refl _)] at hown
        have hN := Nm.of_own hown rfl
        obtain ⟨A2, c2, e2, -⟩ := id hN
        subst e2
        obtain ⟨y0, y1, y2, y3⟩ := q5.c2
        obtain ⟨z0, z1, z2, z3⟩ := q4.c2
        have hl4 := q4.lt
        have hz : Zn wr false A2 (dig a).length c2 (toZ false a) := ⟨HS.out, by rw [natAbs_toZ]; exact hN⟩
        have hJ := hid (Jb.fill q4 hz)
        have hB := hid ((hbel.setCell (p := ⟨g, 0, none⟩) (by show w.heap.size ≤ g; omega) (.bool false)).setCell (p := ⟨g, 1, none⟩) (by show w.heap.size ≤ g; omega) (.slice A2 (dig a).length c2))
        clear hown hN hz q4 q5 hbel hg
        go_wp2
        exact bodyPost_ret (v := .agg #[.bool false, .slice A2 (dig a).length c2]) (by simp [results, Tryz.results64, go_sem, z0, z1]) rfl ⟨false, A2, _, c2, rfl, hJ.out.z, hB.out⟩
  · have H0 := hid h0
    have hd0 : decide (0 < (dig a).length) = false := decide_eq_false (by omega)
    clear h0
    go_enter Tryz.func64, Tryz.ntmps64
    go_wp2
    rw [hg] at j4 j5
    generalize hW : (w.alloc (.cells #[.bool false, .slice none 0 0] 24)).alloc (.cells #[.bool false, .slice none 0 0] 24) = W0 at *
    clear hW
    go_loopw [6] (fun iv wr => ∃ (k : Nat) (V : Value), k ≤ (dig a).length ∧ iv = .int .i64 k ∧ Bk wr g (.cells #[.bool false, .slice none 0 0] 24) ∧ Bk wr (g + 1) (.cells #[.bool false, V] 24) ∧ wr.ownsRow (g + 2) 92 1 V k (vals .u16 ((dig a).take k)) ∧ Below w.heap.size w wr) (fun iv _ => (dig a).length - (intOf iv).toNat)
    case atStart => exact ⟨0, _, Nat.zero_le _, rfl, j4, j5, World.ownsRow_nil _ _ _ _, hbel0⟩
    case round =>
      obtain ⟨k, V, hk, rfl, q4, q5, hown, hbel⟩ := hrel
      by_cases hlt : k < (dig a).length
      · exact absurd hlt (by have := H0.out; omega)
      · obtain rfl : k = (dig a).length := by omega
        rw [List.take_of_length_le (Nat.le_refl _)] at hown
        have hN := Nm.of_own hown rfl
        obtain ⟨A2, c2, e2, -⟩ := id hN
        subst e2
        obtain ⟨y0, y1, y2, y3⟩ := q5.c2
        obtain ⟨z0, z1, z2, z3⟩ := q4.c2
        have hl4 := q4.lt
        have hz : Zn wr false A2 (dig a).length c2 (toZ true a) := ⟨HS.out, by rw [natAbs_toZ]; exact hN⟩
        have hJ := hid (Jb.fill q4 hz)
        have hB := hid ((hbel.setCell (p := ⟨g, 0, none⟩) (by show w.heap.size ≤ g; omega) (.bool false)).setCell (p := ⟨g, 1, none⟩) (by show w.heap.size ≤ g; omega) (.slice A2 (dig a).length c2))
        clear hown hN hz q4 q5 hbel hg
        go_wp2
        exact bodyPost_ret (v := .agg #[.bool false, .slice A2 (dig a).length c2]) (by simp [results, Tryz.results64, go_sem, z0, z1]) rfl ⟨false, A2, _, c2, rfl, hJ.out.z, hB.out⟩
  · go_enter Tryz.func64, Tryz.ntmps64
    go_wp2
    rw [hg] at j4 j5
    generalize hW : (w.alloc (.cells #[.bool false, .slice none 0 0] 24)).alloc (.cells #[.bool true, .slice none 0 0] 24) = W0 at *
    clear hW
    go_loopw [6] (fun iv wr => ∃ (k : Nat) (V : Value), k ≤ (dig a).length ∧ iv = .int .i64 k ∧ Bk wr g (.cells #[.bool false, .slice none 0 0] 24) ∧ Bk wr (g + 1) (.cells #[.bool true, V] 24) ∧ wr.ownsRow (g + 2) 92 1 V k (vals .u16 ((dig a).take k)) ∧ Below w.heap.size w wr) (fun iv _ => (dig a).length - (intOf iv).toNat)
    case atStart => exact ⟨0, _, Nat.zero_le _, rfl, j4, j5, World.ownsRow_nil _ _ _ _, hbel0⟩
    case round =>
      obtain ⟨k, V, hk, rfl, q4, q5, hown, hbel⟩ := hrel
      by_cases hlt : k < (dig a).length
      · obtain ⟨ad, rfl, hb, hcell⟩ := (hs.below hbel) k hlt
        obtain ⟨x, hx⟩ : ∃ x, x = nth (dig a) k := ⟨_, rfl⟩
        have hx1 : x < 65536 := by rw [hx]; exact lim_nth (lim_dig a) k
        rw [← hx] at hcell
        have htk := hid (show (dig a).take (k + 1) = (dig a).take k ++ [x] by rw [hx, nth_eq hlt, List.take_succ_eq_append_getElem hlt])
        clear hx
        obtain ⟨y0, y1, y2, y3⟩ := q5.c2
        have hl5 := q5.lt
        have hl0 := hown.lt
        have hwr : IntKind.u16.wrap (x : Int) = (x : Int) := by rw [IntKind.wrap_u16]; omega
        have hszw := hid (show w.heap.size ≤ wr.heap.size ∧ w.heap.size ≤ g from ⟨hbel.size, by omega⟩)
        have q4d : Bk (wr.alloc (.cells #[.int .u16 (x : Int)] 92)).drew g _ := q4.alloc (.cells #[.int .u16 (x : Int)] 92)
        have q5d : Bk (wr.alloc (.cells #[.int .u16 (x : Int)] 92)).drew (g + 1) _ := q5.alloc (.cells #[.int .u16 (x : Int)] 92)
        have hbd := hid (hbel.alloc hbel.size (.cells #[.int .u16 (x : Int)] 92)).drew
        have Hg := hid hg
        have Hl0 := hid hl0
        have Hbel := hid hbel
        clear hg hl0 hbel
        go_wp2
        go_region_law ((refine step_append_lies _ (by rfl) _ _ _ (by rfl) (g + 2) 92 i0 (.int .u16 0) 1 2 Tryz.underlying22 hi hz0 hz1 hz2 rfl (by decide) V k (vals .u16 ((dig a).take k)) (by rfl) (hown.alloc _) ⟨wr.heap.size, 0, none⟩ 1 1 [.int .u16 (x : Int)] (by rfl) rfl (cell_one_new _ _ _) (one_cell (.int .u16 (x : Int)) rfl) (by decide) (by unfold maxLen; omega) (by omega) (by simp; omega) _ rfl ?_; intro g1 cap1 w1 hown1 hgrow1 hat1 hlt1; have e4 : Bk w1 g _ := (hgrow1.block g q4d.lt (fun e => by have := (Hl0.out g e.symm).1; omega)).trans q4d; have e5 : Bk w1 (g + 1) _ := (hgrow1.block (g + 1) q5d.lt (fun e => by have := (Hl0.out (g + 1) e.symm).1; omega)).trans q5d; obtain ⟨z0, z1, z2, z3⟩ := e5.c2))
        all_goals
          have hB1 := hid ((hbd.out.grown hgrow1 (by have := hszw.out; show w.heap.size ≤ (wr.alloc _).heap.size; simp; omega) (fun k hk => by have := (Hl0.out k hk).1; have := hszw.out; omega)).setCell (p := ⟨g + 1, 1, none⟩) (by have := hszw.out; show w.heap.size ≤ g + 1; omega) (.slice (some ⟨g1, 0, none⟩) (k + 1) cap1))
          have E4 := hid (e4.set (p := ⟨g + 1, 1, none⟩) (show g ≠ g + 1 by omega) (.slice (some ⟨g1, 0, none⟩) (k + 1) cap1))
          have E5 := hid (e5.put1 (.slice (some ⟨g1, 0, none⟩) (k + 1) cap1))
          rw [vals_snoc .u16 ((dig a).take k) x _ rfl, ← htk.out] at hown1
          have hO := hid (hown1.kept (gb1 w1 (g + 1) 1 (.slice (some ⟨g1, 0, none⟩) (k + 1) cap1)) (.inr (fun e => by have := (hown1.lt g1 rfl).1; simp [Value.ownBlock] at e; omega)))
          clear hown1 hgrow1 hat1 hlt1 e4 e5 z0 z1 z2 z3 y0 y1 y2 y3 q4 q5 q4d q5d hown hcell hb hwr hl5
          go_wp2
          go_roundw
          case rel => exact ⟨k + 1, _, hlt, by go_num, E4.out, E5.out, hO.out, hB1.out⟩
          case measure => simp [intOf]; omega
      · obtain rfl : k = (dig a).length := by omega
        rw [List.take_of_length_le (Nat.le_refl _)] at hown
        have hN := Nm.of_own hown rfl
        obtain ⟨A2, c2, e2, -⟩ := id hN
        subst e2
        obtain ⟨y0, y1, y2, y3⟩ := q5.c2
        obtain ⟨z0, z1, z2, z3⟩ := q4.c2
        have hl4 := q4.lt
        have hz : Zn wr true A2 (dig a).length c2 (toZ true a) := ⟨HS.out, by rw [natAbs_toZ]; exact hN⟩
        have hJ := hid (Jb.fill q4 hz)
        have hB := hid ((hbel.setCell (p := ⟨g, 0, none⟩) (by show w.heap.size ≤ g; omega) (.bool true)).setCell (p := ⟨g, 1, none⟩) (by show w.heap.size ≤ g; omega) (.slice A2 (dig a).length c2))
        clear hown hN hz q4 q5 hbel hg
        go_wp2
        exact bodyPost_ret (v := .agg #[.bool true, .slice A2 (dig a).length c2]) (by simp [results, Tryz.results64, go_sem, z0, z1]) rfl ⟨true, A2, _, c2, rfl, hJ.out.z, hB.out⟩

end Go.Proofs.YtffipjofefemiaaGreatDoor

namespace Go.Proofs.YtffipjofefemiaaGreatDoor
open Go.RowKit Kb

theorem Zi.pos {w : World} {s : Bool} {A : Option Addr} {n c : Nat} {x : Int} (h : Zi w s A n c x) (hx : 0 < x) : s = false := by
  obtain ⟨a, _, e⟩ := h
  cases s
  · rfl
  · have := e.out; unfold toZ at this; rw [if_pos rfl] at this; omega
theorem Zi.neg {w : World} {s : Bool} {A : Option Addr} {n c : Nat} {x : Int} (h : Zi w s A n c x) (hx : x < 0) : s = true := by
  obtain ⟨a, _, e⟩ := h
  cases s
  · have := e.out; unfold toZ at this; rw [if_neg (by decide)] at this; omega
  · rfl
theorem Zi.eq {w : World} {s : Bool} {A : Option Addr} {n c : Nat} {x : Int} (h : Zi w s A n c x) : toZ s x.natAbs = x := by
  obtain ⟨a, _, e⟩ := h
  have := Zi.nat e.out
  rw [← this]; exact e.out
theorem Zn.len {w : World} {s : Bool} {A : Option Addr} {n c k : Nat} {x : Int} (h : Zn w s A n c x) (hx : Le k x) : n ≤ k := by
  obtain ⟨_, A', c', e, _⟩ := h
  injection e with _ e2 _
  rw [e2]; exact hx.len
theorem rreadZ {w : World} {s : Bool} {A : Option Addr} {n c : Nat} {x : Int} (h : Zi w s A n c x) (hn : n ≤ 100000) :
    Calls Tryz.prog 63 #[.slice A n c] w fun e w' => ∃ v, e = .returned v ∧ Nt w' v x.natAbs ∧ Below w.heap.size w w' := by
  obtain ⟨a, ⟨xs, h1, h2, h3, h4, h5, h6⟩, e⟩ := h
  have := rread A n c xs w h2 h3 h1 hn
  rw [h4, Zi.nat e.out] at this
  exact this

set_option maxRecDepth 100000 in
set_option maxHeartbeats 2000000 in
theorem rSign {w : World} {s : Bool} {A : Option Addr} {n c : Nat} {x : Int} (h : Zi w s A n c x) (hn : n ≤ 100000) :
    Calls Tryz.prog 61 #[.agg #[.bool s, .slice A n c]] w fun e w' => e = .returned (.int .i64 x.sign) ∧ Below w.heap.size w w' := by
  have hal := al1' w (.cells #[.bool s, .slice A n c] 24)
  have j1 := Bk.of_alloc w (.cells #[.bool s, .slice A n c] 24) rfl
  have hr := hid (rreadZ (h.below hal) hn)
  have H := hid h
  clear h
  rcases Int.lt_trichotomy x 0 with hx | hx | hx
  · obtain rfl := H.out.neg hx
    have hl : ((dig x.natAbs).length : Int) ≠ 0 := fun e => by
      have : x.natAbs = 0 := dig_nil_iff.1 (List.eq_nil_of_length_eq_zero (by omega))
      omega
    have hl' : (((dig x.natAbs).length : Int) == 0) = false := by simpa using hl
    have hsg := hid (Int.sign_eq_neg_one_of_neg hx)
    clear hx hl H
    go_enter Tryz.func61, Tryz.ntmps61
    go_wp2_with fail
    refine hr.out.mono ?_
    rintro e w1 ⟨v, rfl, ⟨A', c', rfl, -⟩, hb1⟩
    replace j1 := j1.step hb1
    obtain ⟨x0, x1, -, -⟩ := j1.c2
    have hB := bthen hal hb1 (Nat.le_refl _)
    clear hb1 hal
    go_wp2
    go_ret
    exact ⟨ret_int hsg.out.symm, hB⟩
  · subst hx
    have hl' : (((dig 0).length : Int) == 0) = true := by rw [dig_zero]; rfl
    clear H
    go_enter Tryz.func61, Tryz.ntmps61
    go_wp2_with fail
    refine hr.out.mono ?_
    rintro e w1 ⟨v, rfl, ⟨A', c', rfl, -⟩, hb1⟩
    have hB := bthen hal hb1 (Nat.le_refl _)
    clear hb1 hal
    go_wp2
    go_ret
    exact ⟨rfl, hB⟩
  · obtain rfl := H.out.pos hx
    have hl : ((dig x.natAbs).length : Int) ≠ 0 := fun e => by
      have : x.natAbs = 0 := dig_nil_iff.1 (List.eq_nil_of_length_eq_zero (by omega))
      omega
    have hl' : (((dig x.natAbs).length : Int) == 0) = false := by simpa using hl
    have hsg := hid (Int.sign_eq_one_of_pos hx)
    clear hx hl H
    go_enter Tryz.func61, Tryz.ntmps61
    go_wp2_with fail
    refine hr.out.mono ?_
    rintro e w1 ⟨v, rfl, ⟨A', c', rfl, -⟩, hb1⟩
    replace j1 := j1.step hb1
    obtain ⟨x0, x1, -, -⟩ := j1.c2
    have hB := bthen hal hb1 (Nat.le_refl _)
    clear hb1 hal
    go_wp2
    go_ret
    exact ⟨ret_int hsg.out.symm, hB⟩

set_option maxRecDepth 100000 in
set_option maxHeartbeats 4000000 in
theorem rNeg {w : World} {s : Bool} {A : Option Addr} {n c : Nat} {x : Int} (h : Zi w s A n c x) (hn : n ≤ 100000) (hx : Le 100000 x) :
    Calls Tryz.prog 114 #[.agg #[.bool s, .slice A n c]] w fun e w' => ∃ r C n c, e = .returned (.agg #[.bool r, .slice C n c]) ∧ Zn w' r C n c (-x) ∧ Below w.heap.size w w' := by
  have hal := below_two w (.cells #[.bool s, .slice A n c] 24) (.cells #[.bool false, .slice none 0 0] 24)
  have j1 := box1 w (.cells #[.bool s, .slice A n c] 24) (.cells #[.bool false, .slice none 0 0] 24)
  have j2 := box2 w (.cells #[.bool s, .slice A n c] 24) (.cells #[.bool false, .slice none 0 0] 24)
  have hz := hid (show toZ (!s) x.natAbs = -x by rw [toZ_not, h.eq])
  have h0 := h.below hal.drew
  have hxl := hid hx.len
  obtain ⟨g, hg⟩ : ∃ g, w.heap.size = g := ⟨_, rfl⟩
  clear h hx
  go_enter Tryz.func114, Tryz.ntmps114
  go_wp2_with fail
  rw [hg] at j1 j2
  generalize hW : (w.alloc (.cells #[.bool s, .slice A n c] 24)).alloc (.cells #[.bool false, .slice none 0 0] 24) = W0 at *
  have Hg := hid hg
  clear hW hg
  replace j1 : Bk W0.drew g _ := j1
  replace j2 : Bk W0.drew (g + 1) _ := j2
  obtain ⟨x0, x1, -, -⟩ := j1.c2
  have hr := hid (rreadZ h0 hn)
  have hB0 := hid hal.drew
  clear h0 hal
  go_region_held3 (fun w' => w'.cell? ⟨g, 0, none⟩ = some (.bool s) ∧ w'.cell? ⟨g, 1, none⟩ = some (.slice A n c)) (first | exact ⟨x0, x1⟩ | exact ⟨y0, y1⟩ | exact ⟨z0, z1⟩ | exact ⟨off_two (by omega) z0, off_two (by omega) z1⟩) (first
    | (go_at_call 63; with_reducible refine hr.out.mono ?_; rintro e w1 ⟨v, rfl, hv, hb1⟩; replace j1 := j1.step hb1; replace j2 := j2.step hb1; obtain ⟨y0, y1, -, -⟩ := j1.c2)
    | (go_at_call 64; with_reducible refine (rmade (!s) v x.natAbs w1 hv (by have := hxl.out; omega)).mono ?_; rintro e w2 ⟨r, C, n', c', rfl, hC, hb2⟩; replace j1 := j1.step hb2; replace j2 := j2.step hb2; obtain ⟨z0, z1, -, -⟩ := j1.c2; obtain ⟨i0, i1, i2, i3⟩ := j2.c2; have hl2 := j2.lt))
  have h5 := bthen (bthen hB0.out hb1 (Nat.le_refl _)) hb2 (Nat.le_refl _)
  have hJ := hid (Jb.fill j2 hC)
  have hgl := Hg.out
  have hB := hid ((h5.setCell (p := ⟨g + 1, 0, none⟩) (by show w.heap.size ≤ g + 1; omega) (.bool r)).setCell (p := ⟨g + 1, 1, none⟩) (by show w.heap.size ≤ g + 1; omega) (.slice C n' c'))
  clear x0 x1 y0 y1 z0 z1 h5 hgl j1 j2 hC hv hb1 hb2
  go_wp2
  exact bodyPost_ret (v := .agg #[.bool r, .slice C n' c']) (by simp [results, Tryz.results114, go_sem, i0, i1]) rfl ⟨r, C, n', c', rfl, by rw [← hz.out]; exact hJ.out.z, hB.out⟩

end Go.Proofs.YtffipjofefemiaaGreatDoor

namespace Go.Proofs.YtffipjofefemiaaGreatDoor
open Go.RowKit Kb

theorem add_lt {k : Nat} {x y : Int} (hx : Le k x) (hy : Le k y) : x.natAbs + y.natAbs < 65536 ^ (k + 1) := by
  unfold Le at *
  rw [Nat.pow_succ]
  omega
theorem radd_cases {s t : Bool} {x y : Int} (ex : toZ s x.natAbs = x) (ey : toZ t y.natAbs = y) : (s = t ∧ toZ s (x.natAbs + y.natAbs) = x + y) ∨ (s ≠ t ∧ y.natAbs ≤ x.natAbs ∧ toZ s (x.natAbs - y.natAbs) = x + y) ∨ (s ≠ t ∧ ¬ y.natAbs ≤ x.natAbs ∧ toZ t (y.natAbs - x.natAbs) = x + y) := by
  unfold toZ at *
  cases s <;> cases t <;> simp at * <;> omega

theorem add_len {k : Nat} {x y : Int} (hx : Le k x) (hy : Le k y) : (dig (x.natAbs + y.natAbs)).length ≤ k + 1 := dig_length_le (add_lt hx hy)
set_option maxRecDepth 100000 in
set_option maxHeartbeats 8000000 in
theorem rAdd {w : World} {s t : Bool} {A B : Option Addr} {n c m d : Nat} {x y : Int} (h : Zi w s A n c x) (k : Zi w t B m d y) (hn : n ≤ 100000) (hm : m ≤ 100000) (hx : Le 100000 x) (hy : Le 100000 y) :
    Calls Tryz.prog 69 #[.agg #[.bool s, .slice A n c], .agg #[.bool t, .slice B m d]] w fun e w' => ∃ r C n c, e = .returned (.agg #[.bool r, .slice C n c]) ∧ Zn w' r C n c (x + y) ∧ Below w.heap.size w w' := by
  have ex := h.eq
  have ey := k.eq
  have HL := hid (show (dig x.natAbs).length ≤ 100000 ∧ (dig y.natAbs).length ≤ 100000 ∧ (dig (x.natAbs + y.natAbs)).length ≤ 100001 ∧ (dig (x.natAbs - y.natAbs)).length ≤ 100000 ∧ (dig (y.natAbs - x.natAbs)).length ≤ 100000 from
    ⟨hx.len, hy.len, add_len hx hy, Nat.le_trans (dig_length_mono (Nat.sub_le _ _)) hx.len, Nat.le_trans (dig_length_mono (Nat.sub_le _ _)) hy.len⟩)
  have hc : (s = t ∧ toZ s (x.natAbs + y.natAbs) = x + y) ∨ (s ≠ t ∧ y.natAbs ≤ x.natAbs ∧ toZ s (x.natAbs - y.natAbs) = x + y) ∨ (s ≠ t ∧ ¬ y.natAbs ≤ x.natAbs ∧ toZ t (y.natAbs - x.natAbs) = x + y) := radd_cases ex ey
  clear ex ey hx hy
  have k3 := three_new w (.cells #[.bool s, .slice A n c] 24) (.cells #[.bool t, .slice B m d] 24) (.cells #[.bool false, .slice none 0 0] 24)
  have hal := (((Below.refl w.heap.size w).alloc (Nat.le_refl _) (.cells #[.bool s, .slice A n c] 24)).alloc (by simp) (.cells #[.bool t, .slice B m d] 24)).alloc (by simp; omega) (.cells #[.bool false, .slice none 0 0] 24)
  obtain ⟨g, hg⟩ : ∃ g, w.heap.size = g := ⟨_, rfl⟩
  go_enter Tryz.func69, Tryz.ntmps69
  go_wp2_with fail
  rw [hg] at k3
  generalize hW : ((w.alloc (.cells #[.bool s, .slice A n c] 24)).alloc (.cells #[.bool t, .slice B m d] 24)).alloc (.cells #[.bool false, .slice none 0 0] 24) = W0 at *
  have Hg := hid hg
  clear hW hg
  have h0 := h.below hal.drew
  have k0 := k.below hal.drew
  have hB0 := hid hal.drew
  have j1 : Bk W0.drew g _ := k3.1
  have j2 : Bk W0.drew (g + 1) _ := k3.2.1
  have j3 : Bk W0.drew (g + 1 + 1) _ := k3.2.2
  obtain ⟨x0, x1, -, -⟩ := j1.c2
  obtain ⟨x2, x3, -, -⟩ := j2.c2
  clear h k k3 hal
  go_region_held3 (fun w' => w'.cell? ⟨g, 0, none⟩ = some (.bool s) ∧ w'.cell? ⟨g, 1, none⟩ = some (.slice A n c) ∧ w'.cell? ⟨g + 1, 0, none⟩ = some (.bool t) ∧ w'.cell? ⟨g + 1, 1, none⟩ = some (.slice B m d)) (first | exact ⟨x0, x1, x2, x3⟩ | exact ⟨y0, y1, y2, y3⟩ | exact ⟨z0, z1, z2, z3⟩) (first
    | (go_at_call 63; with_reducible refine (rreadZ h0 hn).mono ?_; rintro e w1 ⟨v1, rfl, hv1, hb1⟩; have k1 := k0.below hb1; replace j1 := j1.step hb1; replace j2 := j2.step hb1; replace j3 := j3.step hb1; obtain ⟨y0, y1, -, -⟩ := j1.c2; obtain ⟨y2, y3, -, -⟩ := j2.c2)
    | (go_at_call 63; with_reducible refine (rreadZ k1 hm).mono ?_; rintro e w2 ⟨v2, rfl, hv2, hb2⟩; have hv1' := hv1.below hb2; replace j1 := j1.step hb2; replace j2 := j2.step hb2; replace j3 := j3.step hb2; obtain ⟨z0, z1, -, -⟩ := j1.c2; obtain ⟨z2, z3, -, -⟩ := j2.c2))
  have hB2 := hid (bthen (bthen hB0.out hb1 (Nat.le_refl _)) hb2 (Nat.le_refl _))
  clear x0 x1 x2 x3 y0 y1 y2 y3 hv1 hb1 hb2 k1 h0 k0 hB0
  rcases hc with ⟨rfl, e1⟩ | ⟨hst, hle, e1⟩ | ⟨hst, hle, e1⟩
  · have E1 := hid e1
    clear e1
    have hBW := hB2
    have hss : (s == s) = true := by simp
    go_wp2_with fail
    have J1 : Bk w2.drew g _ := j1
    have J2 : Bk w2.drew (g + 1) _ := j2
    have J3 : Bk w2.drew (g + 1 + 1) _ := j3
    have a1 : Nt w2.drew v1 x.natAbs := hv1'.below (Below.refl _ _).drew
    have a2 : Nt w2.drew v2 y.natAbs := hv2.below (Below.refl _ _).drew
    have hBd := hid hBW.out.drew
    obtain ⟨x0, x1, -, -⟩ := J1.c2
    obtain ⟨x2, x3, -, -⟩ := J2.c2
    clear j1 j2 j3 hv1' hv2 hBW
    go_region_held3 (fun w' => w'.cell? ⟨g, 0, none⟩ = some (.bool s)) (first | exact x0 | exact y0 | exact z0 | exact off_two (by omega) z0) (first
      | (go_at_call 113; with_reducible refine (rplus v1 v2 x.natAbs y.natAbs _ a1 a2 (by have := HL.out; omega) (by have := HL.out; omega)).mono ?_; rintro e w5 ⟨v5, rfl, hv5, hb5⟩; replace J1 := J1.step hb5; replace J2 := J2.step hb5; replace J3 := J3.step hb5; obtain ⟨y0, y1, -, -⟩ := J1.c2; obtain ⟨y2, y3, -, -⟩ := J2.c2)
      | (go_at_call 64; with_reducible refine (rmade s v5 (x.natAbs + y.natAbs) w5 hv5 (by have := HL.out; omega)).mono ?_; rintro e w6 ⟨r, C, n', c', rfl, hC, hb6⟩; replace J1 := J1.step hb6; replace J2 := J2.step hb6; replace J3 := J3.step hb6; obtain ⟨z0, z1, -, -⟩ := J1.c2; obtain ⟨z2, z3, -, -⟩ := J2.c2; obtain ⟨i0, i1, i2, i3⟩ := J3.c2; have hl3 := J3.lt))
    have h5 := bthen (bthen hBd.out hb5 (Nat.le_refl _)) hb6 (Nat.le_refl _)
    have hJ := hid (Jb.fill J3 hC)
    have hgl := Hg.out
    have hB := hid ((h5.setCell (p := ⟨g + 1 + 1, 0, none⟩) (by show w.heap.size ≤ g + 1 + 1; omega) (.bool r)).setCell (p := ⟨g + 1 + 1, 1, none⟩) (by show w.heap.size ≤ g + 1 + 1; omega) (.slice C n' c'))
    clear x0 x1 x2 x3 y0 y1 y2 y3 z0 z1 z2 z3 h5 hgl J1 J2 J3 hC hv5 hb5 hb6 a1 a2
    go_wp2
    exact bodyPost_ret (v := .agg #[.bool r, .slice C n' c']) (by simp [results, Tryz.results69, go_sem, i0, i1]) rfl ⟨r, C, n', c', rfl, by rw [← E1.out]; exact hJ.out.z, hB.out⟩
  · have E1 := hid e1
    have HLE := hid (show y.natAbs ≤ x.natAbs from by omega)
    have hss : (s == t) = false := by simpa using hst
    clear e1 hle hst
    go_wp2_with fail
    refine (rcompare v1 v2 x.natAbs y.natAbs w2 hv1' hv2 (by have := HL.out; omega) (by have := HL.out; omega)).mono ?_
    rintro e w4 ⟨cr, rfl, hsg, hb4⟩
    replace j1 := j1.step hb4
    replace j2 := j2.step hb4
    replace j3 := j3.step hb4
    have hcr : (0 : Int) ≤ cr := by
      have hle := HLE.out
      rcases Nat.lt_or_eq_of_le hle with h | h
      · have := hsg.2.2 h; omega
      · have := hsg.2.1 h.symm; omega
    replace hv1' := hv1'.below hb4
    replace hv2 := hv2.below hb4
    have hBW := hid (bthen hB2.out hb4 (Nat.le_refl _))
    obtain ⟨x0, x1, -, -⟩ := j1.c2
    obtain ⟨x2, x3, -, -⟩ := j2.c2
    clear z0 z1 z2 z3 hsg hb4
    go_wp2_with fail
    have J1 : Bk w4.drew g _ := j1
    have J2 : Bk w4.drew (g + 1) _ := j2
    have J3 : Bk w4.drew (g + 1 + 1) _ := j3
    have a1 : Nt w4.drew v1 x.natAbs := hv1'.below (Below.refl _ _).drew
    have a2 : Nt w4.drew v2 y.natAbs := hv2.below (Below.refl _ _).drew
    have hBd := hid hBW.out.drew
    obtain ⟨x0, x1, -, -⟩ := J1.c2
    obtain ⟨x2, x3, -, -⟩ := J2.c2
    clear j1 j2 j3 hv1' hv2 hBW
    go_region_held3 (fun w' => w'.cell? ⟨g, 0, none⟩ = some (.bool s)) (first | exact x0 | exact y0 | exact z0 | exact off_two (by omega) z0) (first
      | (go_at_call 111; with_reducible refine (rminus v1 v2 x.natAbs y.natAbs _ a1 a2 HLE.out (by have := HL.out; omega) (by have := HL.out; omega)).mono ?_; rintro e w5 ⟨v5, rfl, hv5, -, hb5⟩; replace J1 := J1.step hb5; replace J2 := J2.step hb5; replace J3 := J3.step hb5; obtain ⟨y0, y1, -, -⟩ := J1.c2; obtain ⟨y2, y3, -, -⟩ := J2.c2)
      | (go_at_call 64; with_reducible refine (rmade s v5 (x.natAbs - y.natAbs) w5 hv5 (by have := HL.out; omega)).mono ?_; rintro e w6 ⟨r, C, n', c', rfl, hC, hb6⟩; replace J1 := J1.step hb6; replace J2 := J2.step hb6; replace J3 := J3.step hb6; obtain ⟨z0, z1, -, -⟩ := J1.c2; obtain ⟨z2, z3, -, -⟩ := J2.c2; obtain ⟨i0, i1, i2, i3⟩ := J3.c2; have hl3 := J3.lt))
    have h5 := bthen (bthen hBd.out hb5 (Nat.le_refl _)) hb6 (Nat.le_refl _)
    have hJ := hid (Jb.fill J3 hC)
    have hgl := Hg.out
    have hB := hid ((h5.setCell (p := ⟨g + 1 + 1, 0, none⟩) (by show w.heap.size ≤ g + 1 + 1; omega) (.bool r)).setCell (p := ⟨g + 1 + 1, 1, none⟩) (by show w.heap.size ≤ g + 1 + 1; omega) (.slice C n' c'))
    clear x0 x1 x2 x3 y0 y1 y2 y3 z0 z1 z2 z3 h5 hgl J1 J2 J3 hC hv5 hb5 hb6 a1 a2
    go_wp2
    exact bodyPost_ret (v := .agg #[.bool r, .slice C n' c']) (by simp [results, Tryz.results69, go_sem, i0, i1]) rfl ⟨r, C, n', c', rfl, by rw [← E1.out]; exact hJ.out.z, hB.out⟩
  · have E1 := hid e1
    have HLE := hid (show x.natAbs ≤ y.natAbs from by omega)
    have HNE := hid (show x.natAbs < y.natAbs from by omega)
    have hss : (s == t) = false := by simpa using hst
    clear e1 hle hst
    go_wp2_with fail
    refine (rcompare v1 v2 x.natAbs y.natAbs w2 hv1' hv2 (by have := HL.out; omega) (by have := HL.out; omega)).mono ?_
    rintro e w4 ⟨cr, rfl, hsg, hb4⟩
    replace j1 := j1.step hb4
    replace j2 := j2.step hb4
    replace j3 := j3.step hb4
    have hcr : ¬ (0 : Int) ≤ cr := by
      exact fun h => by
        have := hsg.1 HNE.out
        omega
    replace hv1' := hv1'.below hb4
    replace hv2 := hv2.below hb4
    have hBW := hid (bthen hB2.out hb4 (Nat.le_refl _))
    obtain ⟨x0, x1, -, -⟩ := j1.c2
    obtain ⟨x2, x3, -, -⟩ := j2.c2
    clear z0 z1 z2 z3 hsg hb4
    go_wp2_with fail
    have J1 : Bk w4.drew g _ := j1
    have J2 : Bk w4.drew (g + 1) _ := j2
    have J3 : Bk w4.drew (g + 1 + 1) _ := j3
    have a1 : Nt w4.drew v1 x.natAbs := hv1'.below (Below.refl _ _).drew
    have a2 : Nt w4.drew v2 y.natAbs := hv2.below (Below.refl _ _).drew
    have hBd := hid hBW.out.drew
    obtain ⟨x0, x1, -, -⟩ := J1.c2
    obtain ⟨x2, x3, -, -⟩ := J2.c2
    clear j1 j2 j3 hv1' hv2 hBW
    go_region_held3 (fun w' => w'.cell? ⟨g + 1, 0, none⟩ = some (.bool t)) (first | exact x2 | exact y2 | exact z2 | exact off_two (by omega) z2) (first
      | (go_at_call 111; with_reducible refine (rminus v2 v1 y.natAbs x.natAbs _ a2 a1 HLE.out (by have := HL.out; omega) (by have := HL.out; omega)).mono ?_; rintro e w5 ⟨v5, rfl, hv5, -, hb5⟩; replace J1 := J1.step hb5; replace J2 := J2.step hb5; replace J3 := J3.step hb5; obtain ⟨y0, y1, -, -⟩ := J1.c2; obtain ⟨y2, y3, -, -⟩ := J2.c2)
      | (go_at_call 64; with_reducible refine (rmade t v5 (y.natAbs - x.natAbs) w5 hv5 (by have := HL.out; omega)).mono ?_; rintro e w6 ⟨r, C, n', c', rfl, hC, hb6⟩; replace J1 := J1.step hb6; replace J2 := J2.step hb6; replace J3 := J3.step hb6; obtain ⟨z0, z1, -, -⟩ := J1.c2; obtain ⟨z2, z3, -, -⟩ := J2.c2; obtain ⟨i0, i1, i2, i3⟩ := J3.c2; have hl3 := J3.lt))
    have h5 := bthen (bthen hBd.out hb5 (Nat.le_refl _)) hb6 (Nat.le_refl _)
    have hJ := hid (Jb.fill J3 hC)
    have hgl := Hg.out
    have hB := hid ((h5.setCell (p := ⟨g + 1 + 1, 0, none⟩) (by show w.heap.size ≤ g + 1 + 1; omega) (.bool r)).setCell (p := ⟨g + 1 + 1, 1, none⟩) (by show w.heap.size ≤ g + 1 + 1; omega) (.slice C n' c'))
    clear x0 x1 x2 x3 y0 y1 y2 y3 z0 z1 z2 z3 h5 hgl J1 J2 J3 hC hv5 hb5 hb6 a1 a2
    go_wp2
    exact bodyPost_ret (v := .agg #[.bool r, .slice C n' c']) (by simp [results, Tryz.results69, go_sem, i0, i1]) rfl ⟨r, C, n', c', rfl, by rw [← E1.out]; exact hJ.out.z, hB.out⟩

end Go.Proofs.YtffipjofefemiaaGreatDoor

namespace Go.Proofs.YtffipjofefemiaaGreatDoor
open Go.RowKit Kb

set_option maxRecDepth 100000 in
set_option maxHeartbeats 8000000 in
theorem rSub {w : World} {s t : Bool} {A B : Option Addr} {n c m d : Nat} {x y : Int} (h : Zi w s A n c x) (k : Zi w t B m d y) (hn : n ≤ 100000) (hm : m ≤ 100000) (hx : Le 100000 x) (hy : Le 100000 y) :
    Calls Tryz.prog 118 #[.agg #[.bool s, .slice A n c], .agg #[.bool t, .slice B m d]] w fun e w' => ∃ r C n c, e = .returned (.agg #[.bool r, .slice C n c]) ∧ Zn w' r C n c (x - y) ∧ Below w.heap.size w w' := by
  rw [Int.sub_eq_add_neg]
  have hy' : Le 100000 (-y) := hy.neg
  have k3 := three_new w (.cells #[.bool s, .slice A n c] 24) (.cells #[.bool t, .slice B m d] 24) (.cells #[.bool false, .slice none 0 0] 24)
  have hal := (((Below.refl w.heap.size w).alloc (Nat.le_refl _) (.cells #[.bool s, .slice A n c] 24)).alloc (by simp) (.cells #[.bool t, .slice B m d] 24)).alloc (by simp; omega) (.cells #[.bool false, .slice none 0 0] 24)
  obtain ⟨g, hg⟩ : ∃ g, w.heap.size = g := ⟨_, rfl⟩
  go_enter Tryz.func118, Tryz.ntmps118
  go_wp2_with fail
  rw [hg] at k3
  generalize hW : ((w.alloc (.cells #[.bool s, .slice A n c] 24)).alloc (.cells #[.bool t, .slice B m d] 24)).alloc (.cells #[.bool false, .slice none 0 0] 24) = W0 at *
  have Hg := hid hg
  clear hW hg
  have h0 := h.below hal.drew
  have k0 := k.below hal.drew
  have hB0 := hid hal.drew
  have j1 : Bk W0.drew g _ := k3.1
  have j2 : Bk W0.drew (g + 1) _ := k3.2.1
  have j3 : Bk W0.drew (g + 1 + 1) _ := k3.2.2
  obtain ⟨x0, x1, -, -⟩ := j1.c2
  obtain ⟨x2, x3, -, -⟩ := j2.c2
  clear h k k3 hal
  go_region_held3 (fun w' => w'.cell? ⟨g, 0, none⟩ = some (.bool s) ∧ w'.cell? ⟨g, 1, none⟩ = some (.slice A n c) ∧ w'.cell? ⟨g + 1, 0, none⟩ = some (.bool t) ∧ w'.cell? ⟨g + 1, 1, none⟩ = some (.slice B m d)) (first | exact ⟨x0, x1, x2, x3⟩ | exact ⟨y0, y1, y2, y3⟩ | exact ⟨z0, z1, z2, z3⟩ | exact ⟨off_two (by omega) z0, off_two (by omega) z1, off_two (by omega) z2, off_two (by omega) z3⟩) (first
    | (go_at_call 114; with_reducible refine (rNeg k0 hm hy).mono ?_; rintro e w1 ⟨r1, C1, n1, c1, rfl, hv1, hb1⟩; have k1 := h0.below hb1; replace j1 := j1.step hb1; replace j2 := j2.step hb1; replace j3 := j3.step hb1; obtain ⟨y0, y1, -, -⟩ := j1.c2; obtain ⟨y2, y3, -, -⟩ := j2.c2)
    | (go_at_call 69; with_reducible refine (rAdd k1 hv1.zi hn (hv1.len hy') hx hy').mono ?_; rintro e w2 ⟨r, C, n', c', rfl, hC, hb2⟩; replace j1 := j1.step hb2; replace j2 := j2.step hb2; replace j3 := j3.step hb2; obtain ⟨z0, z1, -, -⟩ := j1.c2; obtain ⟨z2, z3, -, -⟩ := j2.c2; obtain ⟨i0, i1, i2, i3⟩ := j3.c2; have hl3 := j3.lt))
  have h5 := bthen (bthen hB0.out hb1 (Nat.le_refl _)) hb2 (Nat.le_refl _)
  have hJ := hid (Jb.fill j3 hC)
  have hgl := Hg.out
  have hB := hid ((h5.setCell (p := ⟨g + 1 + 1, 0, none⟩) (by show w.heap.size ≤ g + 1 + 1; omega) (.bool r)).setCell (p := ⟨g + 1 + 1, 1, none⟩) (by show w.heap.size ≤ g + 1 + 1; omega) (.slice C n' c'))
  clear x0 x1 x2 x3 y0 y1 y2 y3 z0 z1 z2 z3 h5 hgl j1 j2 j3 hC hb1 hb2 hv1 k1 h0 k0
  go_wp2
  exact bodyPost_ret (v := .agg #[.bool r, .slice C n' c']) (by simp [results, Tryz.results118, go_sem, i0, i1]) rfl ⟨r, C, n', c', rfl, hJ.out.z, hB.out⟩

theorem mul_len {k : Nat} {x y : Int} (hx : Le k x) (hy : Le k y) : (dig (x.natAbs * y.natAbs)).length ≤ k + k := dig_length_le (by
  rw [Nat.pow_add]
  exact Nat.mul_lt_mul'' hx hy)
theorem rmul_toZ {s t : Bool} {x y : Int} (ex : toZ s x.natAbs = x) (ey : toZ t y.natAbs = y) : toZ (!(s == t)) (x.natAbs * y.natAbs) = x * y := by
  rw [← ex, ← ey]
  unfold toZ
  cases s <;> cases t <;> simp [Int.neg_mul, Int.mul_neg]
set_option maxRecDepth 100000 in
set_option maxHeartbeats 8000000 in
theorem rMul {w : World} {s t : Bool} {A B : Option Addr} {n c m d : Nat} {x y : Int} (h : Zi w s A n c x) (k : Zi w t B m d y) (hn : n ≤ 100000) (hm : m ≤ 100000) (hx : Le 100000 x) (hy : Le 100000 y) :
    Calls Tryz.prog 62 #[.agg #[.bool s, .slice A n c], .agg #[.bool t, .slice B m d]] w fun e w' => ∃ r C n c, e = .returned (.agg #[.bool r, .slice C n c]) ∧ Zn w' r C n c (x * y) ∧ Below w.heap.size w w' := by
  have E1 := hid (rmul_toZ h.eq k.eq)
  have HL := hid (show (dig x.natAbs).length ≤ 100000 ∧ (dig y.natAbs).length ≤ 100000 ∧ (dig (x.natAbs * y.natAbs)).length ≤ 200000 from
    ⟨hx.len, hy.len, mul_len hx hy⟩)
  clear hx hy
  have k3 := three_new w (.cells #[.bool s, .slice A n c] 24) (.cells #[.bool t, .slice B m d] 24) (.cells #[.bool false, .slice none 0 0] 24)
  have hal := (((Below.refl w.heap.size w).alloc (Nat.le_refl _) (.cells #[.bool s, .slice A n c] 24)).alloc (by simp) (.cells #[.bool t, .slice B m d] 24)).alloc (by simp; omega) (.cells #[.bool false, .slice none 0 0] 24)
  obtain ⟨g, hg⟩ : ∃ g, w.heap.size = g := ⟨_, rfl⟩
  go_enter Tryz.func62, Tryz.ntmps62
  go_wp2_with fail
  rw [hg] at k3
  generalize hW : ((w.alloc (.cells #[.bool s, .slice A n c] 24)).alloc (.cells #[.bool t, .slice B m d] 24)).alloc (.cells #[.bool false, .slice none 0 0] 24) = W0 at *
  have Hg := hid hg
  clear hW hg
  have h0 := h.below hal.drew
  have k0 := k.below hal.drew
  have hB0 := hid hal.drew
  have j1 : Bk W0.drew g _ := k3.1
  have j2 : Bk W0.drew (g + 1) _ := k3.2.1
  have j3 : Bk W0.drew (g + 1 + 1) _ := k3.2.2
  obtain ⟨x0, x1, -, -⟩ := j1.c2
  obtain ⟨x2, x3, -, -⟩ := j2.c2
  clear h k k3 hal
  go_region_held3 (fun w' => w'.cell? ⟨g, 0, none⟩ = some (.bool s) ∧ w'.cell? ⟨g, 1, none⟩ = some (.slice A n c) ∧ w'.cell? ⟨g + 1, 0, none⟩ = some (.bool t) ∧ w'.cell? ⟨g + 1, 1, none⟩ = some (.slice B m d)) (first | exact ⟨x0, x1, x2, x3⟩ | exact ⟨y0, y1, y2, y3⟩ | exact ⟨z0, z1, z2, z3⟩ | exact ⟨t0, t1, t2, t3⟩ | exact ⟨u0, u1, u2, u3⟩ | exact ⟨off_two (by omega) u0, off_two (by omega) u1, off_two (by omega) u2, off_two (by omega) u3⟩) (first
    | (go_at_call 63; with_reducible refine (rreadZ h0 hn).mono ?_; rintro e w1 ⟨v1, rfl, hv1, hb1⟩; have k1 := k0.below hb1; replace j1 := j1.step hb1; replace j2 := j2.step hb1; replace j3 := j3.step hb1; obtain ⟨y0, y1, -, -⟩ := j1.c2; obtain ⟨y2, y3, -, -⟩ := j2.c2)
    | (go_at_call 63; with_reducible refine (rreadZ k1 hm).mono ?_; rintro e w2 ⟨v2, rfl, hv2, hb2⟩; have hv1' := hv1.below hb2; replace j1 := j1.step hb2; replace j2 := j2.step hb2; replace j3 := j3.step hb2; obtain ⟨z0, z1, -, -⟩ := j1.c2; obtain ⟨z2, z3, -, -⟩ := j2.c2)
    | (go_at_call 108; with_reducible refine (rtimes v1 v2 x.natAbs y.natAbs w2 hv1' hv2 (by have := HL.out; omega) (by have := HL.out; omega)).mono ?_; rintro e w3 ⟨v3, rfl, hv3, hb3⟩; replace j1 := j1.step hb3; replace j2 := j2.step hb3; replace j3 := j3.step hb3; obtain ⟨t0, t1, -, -⟩ := j1.c2; obtain ⟨t2, t3, -, -⟩ := j2.c2)
    | (go_at_call 64; with_reducible refine (rmade (!(s == t)) v3 (x.natAbs * y.natAbs) w3 hv3 (by have := HL.out; omega)).mono ?_; rintro e w4 ⟨r, C, n', c', rfl, hC, hb4⟩; replace j1 := j1.step hb4; replace j2 := j2.step hb4; replace j3 := j3.step hb4; obtain ⟨u0, u1, -, -⟩ := j1.c2; obtain ⟨u2, u3, -, -⟩ := j2.c2; obtain ⟨i0, i1, i2, i3⟩ := j3.c2; have hl3 := j3.lt))
  have h5 := bthen (bthen (bthen (bthen hB0.out hb1 (Nat.le_refl _)) hb2 (Nat.le_refl _)) hb3 (Nat.le_refl _)) hb4 (Nat.le_refl _)
  have hJ := hid (Jb.fill j3 hC)
  have hgl := Hg.out
  have hB := hid ((h5.setCell (p := ⟨g + 1 + 1, 0, none⟩) (by show w.heap.size ≤ g + 1 + 1; omega) (.bool r)).setCell (p := ⟨g + 1 + 1, 1, none⟩) (by show w.heap.size ≤ g + 1 + 1; omega) (.slice C n' c'))
  clear x0 x1 x2 x3 y0 y1 y2 y3 z0 z1 z2 z3 t0 t1 t2 t3 u0 u1 u2 u3 h5 hgl j1 j2 j3 hC hb1 hb2 hb3 hb4 hv1 hv2 hv3 hv1' k1 h0 k0
  go_wp2
  exact bodyPost_ret (v := .agg #[.bool r, .slice C n' c']) (by simp [results, Tryz.results62, go_sem, i0, i1]) rfl ⟨r, C, n', c', rfl, by rw [← E1.out]; exact hJ.out.z, hB.out⟩

end Go.Proofs.YtffipjofefemiaaGreatDoor

namespace Go.Proofs.YtffipjofefemiaaGreatDoor
open Go.RowKit Kb

set_option maxRecDepth 100000 in
set_option maxHeartbeats 8000000 in
theorem rOf (z : Int) (w : World) (h1 : -9223372036854775808 ≤ z) (h2 : z ≤ 9223372036854775807) :
    Calls Tryz.prog 15 #[.int .i64 z] w fun e w' => ∃ r C n c, e = .returned (.agg #[.bool r, .slice C n c]) ∧ Zn w' r C n c z ∧ Below w.heap.size w w' := by
  obtain ⟨i0, hi, hz0, hz1, hz2⟩ := info_parts Tryz.infoInt
  obtain ⟨a, ha⟩ : ∃ a, a = z.natAbs := ⟨_, rfl⟩
  have hla := hid (show (dig a).length ≤ 4 from dig_length_le (by rw [show (65536 : Nat) ^ 4 = 18446744073709551616 from rfl]; omega))
  have hbig := hid (show a < 18446744073709551616 by omega)
  have HB := hid (al1' w (.cells #[.bool false, .slice none 0 0] 24))
  have j1 := Bk.of_alloc w (.cells #[.bool false, .slice none 0 0] 24) rfl
  obtain ⟨g, hg⟩ : ∃ g, w.heap.size = g := ⟨_, rfl⟩
  have Hg := hid hg
  by_cases hz : z < 0
  · have hw : IntKind.u64.wrap (-IntKind.u64.wrap z) = (a : Int) := by
      simp only [IntKind.wrap_u64]
      omega
    have Hw := hid hw
    have Hz := hid (show toZ true a = z by unfold toZ; rw [if_pos rfl]; omega)
    clear hw ha h1 h2
    go_enter Tryz.func15, Tryz.ntmps15
    go_wp2
    generalize hW : w.alloc (.cells #[.bool false, .slice none 0 0] 24) = W0 at *
    clear hW
    rw [hg] at j1
    go_loopw [3, 4] (fun v xv wr => ∃ (r : Nat) (o : List Nat) (vv : Value), dig a = o ++ dig r ∧ xv = .int .u64 r ∧ r ≤ a ∧ vv = v ∧ wr.ownsRow W0.heap.size 3 1 vv o.length (vals .i64 o) ∧ Below W0.heap.size W0 wr) (fun _ xv _ => (intOf xv).toNat)
    case atStart => exact ⟨a, [], _, rfl, val_int Hw.out, Nat.le_refl _, rfl, World.ownsRow_nil _ _ _ _, Below.refl _ _⟩
    case round =>
      obtain ⟨r, o, v, hd, rfl, hra, hvv, hown, hbel⟩ := hrel
      subst hvv
      have Hd := hid hd; clear hd
      by_cases hr : r = 0
      · have Hd2 := hid (dig_rest Hd.out hr)
        have hr' : ¬ (0 : Int) < (r : Int) := by omega
        have hN : Nt wr v a := by unfold Nt; rw [Hd2.out]; exact Ls.of_own hown
        have hm := hid (rmade true v a wr hN (by have := hla.out; omega))
        have hB1 := hid (bthen HB.out hbel (Nat.le_refl _))
        replace j1 := j1.step hbel
        have hneg : z < 0 := by omega
        clear hr hown hbel hN
        go_wp2_with fail
        refine hm.out.mono ?_
        rintro e w2 ⟨s, C, n', c', rfl, hC, hb2⟩
        replace j1 := j1.step hb2
        obtain ⟨i0', i1', i2', i3'⟩ := j1.c2
        have hl := j1.lt
        have hJ := hid (Jb.fill j1 hC)
        have hB := hid (((bthen hB1.out hb2 (Nat.le_refl _)).setCell (p := ⟨g, 0, none⟩) (by have := Hg.out; show w.heap.size ≤ g; omega) (.bool s)).setCell (p := ⟨g, 1, none⟩) (by have := Hg.out; show w.heap.size ≤ g; omega) (.slice C n' c'))
        clear j1 hC hb2
        go_wp2
        exact bodyPost_ret (v := .agg #[.bool s, .slice C n' c']) (by simp [results, Tryz.results15, go_sem, i0', i1']) rfl ⟨s, C, n', c', rfl, by rw [← Hz.out]; exact hJ.out.z, hB.out⟩
      · have hr' : (0 : Int) < (r : Int) := by omega
        have hroom := room_of Hd.out hr hla.out
        obtain ⟨x, hx⟩ : ∃ x, x = r % 65536 := ⟨_, rfl⟩
        have hd2 := dig_out Hd.out hr
        rw [← hx] at hd2
        have Hd2 := hid hd2
        have hm : (r : Int) % 65536 = (x : Int) := by omega
        have hxw : IntKind.i64.wrap (x : Int) = (x : Int) := by rw [IntKind.wrap_i64]; omega
        have hsz := hbel.size
        have hrp : 0 < r := by omega
        clear hx hd2 hr
        go_wp2_with (at_builtin; (refine wpList_append_own _ rfl (.tmp 15) (.tmp 19) 80 rfl W0.heap.size 3 i0 (.int .i64 0) 1 8 Tryz.underlying80 hi hz0 hz1 hz2 rfl (by decide) v o.length (vals .i64 o) rfl (hown.alloc _) ⟨wr.heap.size, 0, none⟩ 1 1 [.int .i64 (x : Int)] rfl rfl (cell_one_new _ _ _) (one_cell _ rfl) (by unfold maxLen; omega) (by omega) (by simp; omega) ?_))
        intro v' w1 hown1 hgrow1 _
        have hl1 := hown.lt
        have hb1 := (hbel.alloc hsz (.cells #[.int .i64 (x : Int)] 3)).grown hgrow1 (by simp; omega) (fun k hk => (hl1 k hk).1)
        rw [vals_snoc .i64 o x _ rfl, show o.length + 1 = (o ++ [x]).length from by simp] at hown1
        have Hown := hid hown1
        have hdv : IntKind.u64.wrap ((r : Int) / 65536) = (r : Int) / 65536 := by
          rw [IntKind.wrap_u64]; have := hbig.out; omega
        clear hown1 hown hgrow1 hl1 hm hxw
        go_wp2
        go_roundw
        case rel => exact ⟨r / 65536, _, _, Hd2.out, by go_num, by omega, rfl, Hown.out, hb1⟩
        case measure => simp [intOf]; omega
  · have hw : IntKind.u64.wrap z = (a : Int) := by
      simp only [IntKind.wrap_u64]
      omega
    have Hw := hid hw
    have Hz := hid (show toZ false a = z by unfold toZ; rw [if_neg (by decide)]; omega)
    clear hw ha h1 h2
    go_enter Tryz.func15, Tryz.ntmps15
    go_wp2
    generalize hW : w.alloc (.cells #[.bool false, .slice none 0 0] 24) = W0 at *
    clear hW
    rw [hg] at j1
    go_loopw [3, 4] (fun v xv wr => ∃ (r : Nat) (o : List Nat) (vv : Value), dig a = o ++ dig r ∧ xv = .int .u64 r ∧ r ≤ a ∧ vv = v ∧ wr.ownsRow W0.heap.size 3 1 vv o.length (vals .i64 o) ∧ Below W0.heap.size W0 wr) (fun _ xv _ => (intOf xv).toNat)
    case atStart => exact ⟨a, [], _, rfl, val_int Hw.out, Nat.le_refl _, rfl, World.ownsRow_nil _ _ _ _, Below.refl _ _⟩
    case round =>
      obtain ⟨r, o, v, hd, rfl, hra, hvv, hown, hbel⟩ := hrel
      subst hvv
      have Hd := hid hd; clear hd
      by_cases hr : r = 0
      · have Hd2 := hid (dig_rest Hd.out hr)
        have hr' : ¬ (0 : Int) < (r : Int) := by omega
        have hN : Nt wr v a := by unfold Nt; rw [Hd2.out]; exact Ls.of_own hown
        have hm := hid (rmade false v a wr hN (by have := hla.out; omega))
        have hB1 := hid (bthen HB.out hbel (Nat.le_refl _))
        replace j1 := j1.step hbel
        have hneg : ¬ z < 0 := by omega
        clear hr hown hbel hN
        go_wp2_with fail
        refine hm.out.mono ?_
        rintro e w2 ⟨s, C, n', c', rfl, hC, hb2⟩
        replace j1 := j1.step hb2
        obtain ⟨i0', i1', i2', i3'⟩ := j1.c2
        have hl := j1.lt
        have hJ := hid (Jb.fill j1 hC)
        have hB := hid (((bthen hB1.out hb2 (Nat.le_refl _)).setCell (p := ⟨g, 0, none⟩) (by have := Hg.out; show w.heap.size ≤ g; omega) (.bool s)).setCell (p := ⟨g, 1, none⟩) (by have := Hg.out; show w.heap.size ≤ g; omega) (.slice C n' c'))
        clear j1 hC hb2
        go_wp2
        exact bodyPost_ret (v := .agg #[.bool s, .slice C n' c']) (by simp [results, Tryz.results15, go_sem, i0', i1']) rfl ⟨s, C, n', c', rfl, by rw [← Hz.out]; exact hJ.out.z, hB.out⟩
      · have hr' : (0 : Int) < (r : Int) := by omega
        have hroom := room_of Hd.out hr hla.out
        obtain ⟨x, hx⟩ : ∃ x, x = r % 65536 := ⟨_, rfl⟩
        have hd2 := dig_out Hd.out hr
        rw [← hx] at hd2
        have Hd2 := hid hd2
        have hm : (r : Int) % 65536 = (x : Int) := by omega
        have hxw : IntKind.i64.wrap (x : Int) = (x : Int) := by rw [IntKind.wrap_i64]; omega
        have hsz := hbel.size
        have hrp : 0 < r := by omega
        clear hx hd2 hr
        go_wp2_with (at_builtin; (refine wpList_append_own _ rfl (.tmp 15) (.tmp 19) 80 rfl W0.heap.size 3 i0 (.int .i64 0) 1 8 Tryz.underlying80 hi hz0 hz1 hz2 rfl (by decide) v o.length (vals .i64 o) rfl (hown.alloc _) ⟨wr.heap.size, 0, none⟩ 1 1 [.int .i64 (x : Int)] rfl rfl (cell_one_new _ _ _) (one_cell _ rfl) (by unfold maxLen; omega) (by omega) (by simp; omega) ?_))
        intro v' w1 hown1 hgrow1 _
        have hl1 := hown.lt
        have hb1 := (hbel.alloc hsz (.cells #[.int .i64 (x : Int)] 3)).grown hgrow1 (by simp; omega) (fun k hk => (hl1 k hk).1)
        rw [vals_snoc .i64 o x _ rfl, show o.length + 1 = (o ++ [x]).length from by simp] at hown1
        have Hown := hid hown1
        have hdv : IntKind.u64.wrap ((r : Int) / 65536) = (r : Int) / 65536 := by
          rw [IntKind.wrap_u64]; have := hbig.out; omega
        clear hown1 hown hgrow1 hl1 hm hxw
        go_wp2
        go_roundw
        case rel => exact ⟨r / 65536, _, _, Hd2.out, by go_num, by omega, rfl, Hown.out, hb1⟩
        case measure => simp [intOf]; omega

end Go.Proofs.YtffipjofefemiaaGreatDoor
