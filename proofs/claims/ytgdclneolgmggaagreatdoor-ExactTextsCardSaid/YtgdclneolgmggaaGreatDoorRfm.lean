/- The reference's Format. For all integers of at most a thousand limbs. -/
import Derived.Test.YtgdclneolgmggaaGreatDoorRgcd
import Derived.Test.YtgdclneolgmggaaGreatDoorFmt
import Derived.Test.YtgdclneolgmggaaGreatDoorRdi
namespace Go.Proofs.YtgdclneolgmggaaGreatDoor
open Go.RowKit Kb Go.Lib

theorem bl_append (s t : ByteArray) : bl (s ++ t) = bl s ++ bl t := ByteArray.toList_data_append
theorem str_eq {s : ByteArray} {l : List UInt8} (h : bl s = l) : s = ⟨l.toArray⟩ := bl_inj (by rw [h, bl_of])
theorem tl_empty (s : ByteArray) : s.toList.isEmpty = (bl s).isEmpty := by rw [tl_eq]

/-- Behind some rounds of the reference's Format. -/
def RfRel (a m : Nat) (T : List UInt8) : Prop := (0 < m → decDigits a = decDigits m ++ T) ∧ (m = 0 → (a = 0 ∧ T = []) ∨ (a ≠ 0 ∧ T = decDigits a)) ∧ (0 < m → 0 < a)

theorem RfRel.start (a : Nat) : RfRel a a [] := ⟨fun _ => by rw [List.append_nil], fun h => .inl ⟨h, rfl⟩, fun h => h⟩
theorem RfRel.next {a m : Nat} {T : List UInt8} (h : RfRel a m T) (hm : 0 < m) : RfRel a (m / 10) (UInt8.ofNat (48 + m % 10) :: T) := by
  have e := h.1 hm
  have ha := h.2.2 hm
  refine ⟨fun hq => ?_, fun hq => .inr ⟨by omega, ?_⟩, fun _ => ha⟩
  · rw [e, dec_step (by omega), List.append_assoc]; rfl
  · rw [e, dec_small (by omega), show m % 10 = m by omega]; rfl
theorem pow_cut (k : Nat) : 65536 ^ k ≤ 10 ^ (5 * k) := by
  rw [Nat.pow_mul]
  exact Nat.pow_le_pow_left (by decide) k
theorem dec_cut {a k : Nat} (h : a < 65536 ^ k) (hk : 0 < k) : (decDigits a).length ≤ 5 * k := dec_len (Nat.lt_of_lt_of_le h (pow_cut k)) (by omega)
theorem RfRel.len {a m : Nat} {T : List UInt8} (h : RfRel a m T) (ha : a < 65536 ^ 1000) : T.length ≤ 5000 := by
  have hd : (decDigits a).length ≤ 5000 := dec_cut (k := 1000) ha (by decide)
  rcases Nat.eq_zero_or_pos m with e | e
  · rcases h.2.1 e with ⟨_, e2⟩ | ⟨_, e2⟩
    · rw [e2]; simp
    · rw [e2]; exact hd
  · have := h.1 e
    rw [this, List.length_append] at hd
    omega

theorem ext_digit {d : Nat} (h : d < 10) : (⟨#[48, 49, 50, 51, 52, 53, 54, 55, 56, 57]⟩ : ByteArray).extract d (d + 1) = ⟨#[UInt8.ofNat (48 + d)]⟩ := by
  match d, h with
  | 0, _ | 1, _ | 2, _ | 3, _ | 4, _ | 5, _ | 6, _ | 7, _ | 8, _ | 9, _ => rfl
  | d + 10, h => omega

theorem dig_small_mod (m : Nat) : nth (dig (m % 10)) 0 = m % 10 := by
  by_cases h : m % 10 = 0
  · rw [h, dig_zero]; rfl
  · rw [dig_small h (by omega)]; rfl

theorem rdigit0 {v : Value} {m : Nat} {w : World} (h : Nt w v (m % 10)) :
    Calls Tryz.prog 55 #[v, .int .i64 0] w fun e w' => e = .returned (.int .i64 (m % 10 : Nat)) ∧ w = w' := by
  have := rdigit v _ 0 w h (by omega)
  rwa [dig_small_mod] at this

def strLen : Value → Nat | .string s => s.size | _ => 0

set_option maxRecDepth 100000 in
set_option maxHeartbeats 4000000 in
theorem rFormat {s : Bool} {A : Option Addr} {n c : Nat} {z : Int} {w : World} (h : Zi w s A n c z) (hn : n ≤ 100000) (hz : Le 1000 z) :
    Calls Tryz.prog 13 #[.agg #[.bool s, .slice A n c]] w fun e w' => e = .returned (.string ⟨(itoa z).toArray⟩) ∧ Below w.heap.size w w' := by
  have b0 := heap_alloc_new w (.cells #[.bool s, .slice A n c] 24)
  have hB := (Below.refl w.heap.size w).alloc (Nat.le_refl _) (.cells #[.bool s, .slice A n c] 24)
  have h1 := h.below hB
  have hzs : itoa z = itoa (toZ s z.natAbs) := by
    obtain ⟨a, _, e⟩ := h
    rw [← Zi.nat e.out, e.out]
  have hZ := hid hz
  have HZS := hid hzs
  clear h hz hzs
  obtain ⟨g, hg0⟩ : ∃ g, w.heap.size = g := ⟨_, rfl⟩
  go_enter Tryz.func13, Tryz.ntmps13
  go_wp2_with fail
  rw [hg0] at b0
  generalize w.alloc (.cells #[.bool s, .slice A n c] 24) = W0 at *
  have HB := hid hB
  have Hg0 := hid hg0
  have hgl : g < W0.heap.size := (Array.getElem?_eq_some_iff.1 b0).1
  have B0 := hid b0
  clear hB hg0 b0
  refine (rreadZ h1 hn).mono ?_
  rintro e w1 ⟨v1, rfl, hv1, hb1⟩
  have B1 := hid ((hb1.block g hgl).trans B0.out)
  have hgl1 := Nat.lt_of_lt_of_le hgl hb1.size
  have HB1 := hid (bthen HB.out hb1 (Nat.le_refl _))
  have hN : z.natAbs < 65536 ^ 1000 := hZ.out
  have HN := hid hN
  have hla : (dig z.natAbs).length ≤ 1000 := dig_length_le hN
  generalize z.natAbs = a at *
  clear hb1 B0 HB h1 hgl hN
  go_wp2
  go_loopw [3, 4] (fun v tv wr => ∃ (m : Nat) (S : ByteArray), tv = .string S ∧ Nt wr v m ∧ m ≤ a ∧ Hid (RfRel a m (bl S)) ∧ Hid (Below w1.heap.size w1 wr)) (fun _ tv _ => 6000 - strLen tv)
  case atStart => exact ⟨a, _, rfl, hv1, Nat.le_refl _, hid (RfRel.start a), hid (Below.refl _ _)⟩
  case round =>
    obtain ⟨m, S, rfl, hv, hma, hr, hbel⟩ := hrel
    have hSl : S.size ≤ 5000 := by rw [← bl_len]; exact hr.out.len HN.out
    have hlm := dig_length_mono hma
    obtain ⟨A3, c3, rfl, hv3⟩ := id hv
    by_cases hm : m = 0
    · subst hm
      rw [dig_zero, List.length_nil]
      have hE : S.toList.isEmpty = decide (a = 0) := by
        rw [tl_empty]
        rcases hr.out.2.1 rfl with ⟨e1, e2⟩ | ⟨e1, e2⟩
        · rw [e2, e1]; rfl
        · rw [e2]
          have := dec_ne a
          cases hd : decDigits a with
          | nil => exact absurd hd this
          | cons b l => simp [e1]
      have hfin := hid (bthen HB1.out hbel.out (Nat.le_refl _))
      by_cases ha0 : a = 0
      · have hres := hid (show itoa z = [48] by rw [HZS.out, ha0, itoa_zero])
        rw [decide_eq_true ha0] at hE
        go_wp2
        go_ret
        exact ⟨by rw [hres.out]; rfl, hfin.out⟩
      · have hS : bl S = decDigits a := by
          rcases hr.out.2.1 rfl with ⟨e1, e2⟩ | ⟨e1, e2⟩
          · exact absurd e1 ha0
          · exact e2
        have hres := hid (show itoa z = sg s ++ decDigits a by rw [HZS.out, itoa_sg ha0])
        rw [decide_eq_false ha0] at hE
        obtain ⟨x0, x1, x2, x3⟩ := cells2 ((hbel.out.block g hgl1).trans B1.out)
        have HS := hid hS
        have Ha0 := hid ha0
        clear hS ha0 hv hv1 hr
        cases s with
        | false =>
          go_wp2
          go_ret
          exact ⟨by rw [hres.out, str_eq HS.out]; rfl, hfin.out⟩
        | true =>
          go_wp2
          go_ret
          have e := str_eq (s := ⟨#[45]⟩ ++ S) (l := sg true ++ decDigits a) (by rw [bl_append, HS.out]; rfl)
          exact ⟨by rw [hres.out, ← e]; rfl, hfin.out⟩
    · have hm0 : 0 < (dig m).length := List.length_pos_iff.2 (fun e => hm (by rw [← val_dig m, e]; rfl))
      have hn10 := nt_one wr 10 (by decide) (by decide)
      have hal := al1' wr (.cells #[.int .i64 ((10 : Nat) : Int)] 3)
      have hv4 := hv.below hal
      have hover := rover _ _ m 10 _ hv4 hn10 (by decide) (by omega) (by rw [dig_small (by decide) (by decide)]; decide)
      have hx : m % 10 < 10 := Nat.mod_lt _ (by decide)
      have Hr := hid (hr.out.next (by omega))
      have HX := hid (dig_small_mod m)
      clear hr hv hv1 hn10
      go_wp2_with (first
        | (go_at_call 54; refine hover.mono ?_; rintro e w5 ⟨q, r, rfl, hq, hrr, hb5⟩)
        | (go_at_call 55; refine (rdigit0 hrr).mono ?_; rintro e w6 ⟨rfl, rfl⟩))
      have hb6 := bthen hbel.out (bthen hal hb5 (Nat.le_refl _)) (Nat.le_refl _)
      rw [ext_digit hx]
      have hsz : (⟨#[UInt8.ofNat (48 + m % 10)]⟩ ++ S : ByteArray).size = S.size + 1 := by rw [← bl_len, bl_append, List.length_append, bl_len, Nat.add_comm]; rfl
      go_roundw
      case rel => exact ⟨m / 10, _, rfl, hq, by omega, hid (by rw [bl_append]; exact Hr.out), hid hb6⟩
      case measure => show 6000 - (⟨#[UInt8.ofNat (48 + m % 10)]⟩ ++ S : ByteArray).size < 6000 - S.size; omega

end Go.Proofs.YtgdclneolgmggaaGreatDoor
