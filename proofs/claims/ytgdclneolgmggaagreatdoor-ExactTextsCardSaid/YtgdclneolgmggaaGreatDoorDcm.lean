/- Decimal texts: the digits of a number, their reading, and which texts they are. No program is run in this text. -/
import Derived.Lib.ItoaNum
namespace Go.Proofs.YtgdclneolgmggaaGreatDoor
open Go.Lib

/-- A digit's byte. -/
def isD (b : UInt8) : Prop := 48 ≤ b.toNat ∧ b.toNat ≤ 57

/-- What digits read as, with what stood ahead of them. -/
def rdt (n : Nat) (l : List UInt8) : Nat := l.foldl (fun n b => 10 * n + (b.toNat - 48)) n

theorem rd_cons (n : Nat) (b : UInt8) (l : List UInt8) : rdt n (b :: l) = rdt (10 * n + (b.toNat - 48)) l := List.foldl_cons ..

/-- Digits without a zero that could be left out. -/
def Pl (l : List UInt8) : Prop := l ≠ [] ∧ (∀ b ∈ l, isD b) ∧ (l.head? = some 48 → l = [48])

theorem dec_small {u : Nat} (h : u < 10) : decDigits u = [UInt8.ofNat (48 + u)] := decDigits_one h

theorem dec_step {u : Nat} (h : 10 ≤ u) : decDigits u = decDigits (u / 10) ++ [UInt8.ofNat (48 + u % 10)] := by
  rw [decDigits, dif_neg (by omega)]

theorem dec_snoc {q d : Nat} (hq : 0 < q) (hd : d < 10) : decDigits (10 * q + d) = decDigits q ++ [UInt8.ofNat (48 + d)] := by
  rw [dec_step (by omega), show (10 * q + d) / 10 = q by omega, show (10 * q + d) % 10 = d by omega]

theorem dec_group {q g : Nat} (hq : 0 < q) (hg : g < 10000) : decDigits (q * 10000 + g) = decDigits q ++ [UInt8.ofNat (48 + g / 1000), UInt8.ofNat (48 + g / 100 % 10), UInt8.ofNat (48 + g / 10 % 10), UInt8.ofNat (48 + g % 10)] := by
  have e : q * 10000 + g = 10 * (10 * (10 * (10 * q + g / 1000) + g / 100 % 10) + g / 10 % 10) + g % 10 := by omega
  rw [e, dec_snoc (by omega) (by omega), dec_snoc (by omega) (by omega), dec_snoc (by omega) (by omega), dec_snoc hq (by omega)]
  simp

theorem rd_append (l : List UInt8) (b : UInt8) : ∀ n, rdt n (l ++ [b]) = 10 * rdt n l + (b.toNat - 48) := by
  intro n
  unfold rdt
  rw [List.foldl_append, List.foldl_cons, List.foldl_nil]

theorem ofNat_toNat {d : Nat} (h : d < 10) : (UInt8.ofNat (48 + d)).toNat = 48 + d := by
  rw [UInt8.toNat_ofNat']; omega

theorem dec_ne (u : Nat) : decDigits u ≠ [] := by
  intro e
  have h := decDigits_length u
  have := nDigits_pos u
  rw [e] at h
  simp at h
  omega

theorem rd_one (b : UInt8) : rdt 0 [b] = b.toNat - 48 := by unfold rdt; rw [List.foldl_cons, List.foldl_nil, Nat.mul_zero, Nat.zero_add]

theorem rd_dec (u : Nat) : rdt 0 (decDigits u) = u := by
  induction u using Nat.strongRecOn with
  | _ u ih =>
    by_cases h : u < 10
    · rw [dec_small h, rd_one, ofNat_toNat h]; omega
    · rw [dec_step (by omega), rd_append, ih (u / 10) (by omega), ofNat_toNat (by omega)]; omega

theorem dec_isD (u : Nat) : ∀ b ∈ decDigits u, isD b := by
  induction u using Nat.strongRecOn with
  | _ u ih =>
    intro b hb
    by_cases h : u < 10
    · rw [dec_small h, List.mem_singleton] at hb
      subst hb
      unfold isD; rw [ofNat_toNat h]; omega
    · rw [dec_step (by omega), List.mem_append, List.mem_singleton] at hb
      rcases hb with hb | hb
      · exact ih (u / 10) (by omega) b hb
      · subst hb
        unfold isD; rw [ofNat_toNat (by omega)]; omega

theorem dec_zero : decDigits 0 = [48] := by rw [dec_small (by omega)]; rfl

theorem head_snoc {l : List UInt8} (h : l ≠ []) (b : UInt8) : (l ++ [b]).head? = l.head? := by
  cases l with
  | nil => exact absurd rfl h
  | cons c l => rfl

theorem dec_head (u : Nat) : (decDigits u).head? = some 48 → u = 0 := by
  induction u using Nat.strongRecOn with
  | _ u ih =>
    intro h
    by_cases h1 : u < 10
    · rw [dec_small h1] at h
      have h2 : UInt8.ofNat (48 + u) = 48 := by simpa using h
      have h3 := ofNat_toNat h1
      rw [h2] at h3
      have h4 : (48 : UInt8).toNat = 48 := rfl
      omega
    · rw [dec_step (by omega), head_snoc (dec_ne _)] at h
      have := ih (u / 10) (by omega) h
      omega

theorem dec_pl (u : Nat) : Pl (decDigits u) := ⟨dec_ne u, dec_isD u, fun h => by rw [dec_head u h, dec_zero]⟩

theorem isD_back {b : UInt8} (h : isD b) : UInt8.ofNat (48 + (b.toNat - 48)) = b := by
  have h1 := h.1
  have e : 48 + (b.toNat - 48) = b.toNat := by omega
  rw [e]
  exact UInt8.ofNat_toNat

/-- Plain digits are the digits of what they read as. -/
theorem dec_rd : ∀ (n : Nat) (l : List UInt8), l.length = n → Pl l → decDigits (rdt 0 l) = l
  | 0, l, hn, h => absurd (List.eq_nil_of_length_eq_zero hn) h.1
  | n + 1, l, hn, h => by
    obtain ⟨l', b, rfl⟩ : ∃ l' b, l = l' ++ [b] := ⟨l.dropLast, l.getLast h.1, (List.dropLast_concat_getLast h.1).symm⟩
    have hb := h.2.1 b (by simp)
    have hb2 := hb.2
    by_cases hl : l' = []
    · subst hl
      rw [List.nil_append, rd_one, dec_small (by omega), isD_back hb]
    · have hh := head_snoc hl b
      have h48 : l'.head? ≠ some 48 := fun e => by
        have := h.2.2 (by rw [hh]; exact e)
        have h2 := congrArg List.length this
        simp at h2
        exact hl h2
      have hp : Pl l' := ⟨hl, fun c hc => h.2.1 c (List.mem_append_left _ hc), fun e => absurd e h48⟩
      have ih := dec_rd n l' (by simp at hn; omega) hp
      have hpos : 0 < rdt 0 l' := by
        rcases Nat.eq_zero_or_pos (rdt 0 l') with e | e
        · rw [e, dec_zero] at ih
          exact absurd (by rw [← ih]; rfl) h48
        · exact e
      rw [rd_append, dec_snoc hpos (by omega), ih, isD_back hb]

/-- A text without the sign ahead of it. -/
def st (l : List UInt8) : List UInt8 := if l.head? = some 45 then l.tail else l

/-- What a text reads as. -/
def rz (l : List UInt8) : Int := if l.head? = some 45 then -((rdt 0 (st l) : Nat) : Int) else ((rdt 0 (st l) : Nat) : Int)

/-- A text that an integer has. -/
def Good (l : List UInt8) : Prop := Pl (st l) ∧ ¬ (l.head? = some 45 ∧ st l = [48])

theorem dec_noneg (u : Nat) : (decDigits u).head? ≠ some 45 := by
  intro h
  have hm : (45 : UInt8) ∈ decDigits u := List.mem_of_mem_head? h
  have := (dec_isD u _ hm).1
  have e : (45 : UInt8).toNat = 45 := rfl
  omega

theorem itoa_neg {z : Int} (h : z < 0) : itoa z = 45 :: decDigits z.natAbs := by unfold itoa; rw [if_pos h]
theorem itoa_pos {z : Int} (h : 0 ≤ z) : itoa z = decDigits z.natAbs := by
  unfold itoa; rw [if_neg (by omega)]; congr 1; omega

theorem good_itoa (z : Int) : Good (itoa z) ∧ rz (itoa z) = z := by
  by_cases h : z < 0
  · have e : st (itoa z) = decDigits z.natAbs := by rw [itoa_neg h]; rfl
    have eh : (itoa z).head? = some 45 := by rw [itoa_neg h]; rfl
    refine ⟨⟨by rw [e]; exact dec_pl _, fun hc => ?_⟩, ?_⟩
    · have h1 := hc.2
      rw [e] at h1
      have := dec_head z.natAbs (by rw [h1]; rfl)
      omega
    · unfold rz; rw [if_pos eh, e, rd_dec]; omega
  · have e0 := itoa_pos (z := z) (by omega)
    have eh : (itoa z).head? ≠ some 45 := by rw [e0]; exact dec_noneg _
    have e : st (itoa z) = decDigits z.natAbs := by unfold st; rw [if_neg eh, e0]
    refine ⟨⟨by rw [e]; exact dec_pl _, fun hc => eh hc.1⟩, ?_⟩
    unfold rz; rw [if_neg eh, e, rd_dec]; omega

theorem itoa_good {l : List UInt8} (h : Good l) : itoa (rz l) = l := by
  have hd := dec_rd _ (st l) rfl h.1
  by_cases hn : l.head? = some 45
  · have e : l = 45 :: st l := by
      cases l with
      | nil => simp at hn
      | cons c l => simp at hn; subst hn; rfl
    have hpos : 0 < rdt 0 (st l) := by
      rcases Nat.eq_zero_or_pos (rdt 0 (st l)) with e | e
      · rw [e, dec_zero] at hd; exact absurd ⟨hn, hd.symm⟩ h.2
      · exact e
    have hz : rz l = -((rdt 0 (st l) : Nat) : Int) := by unfold rz; rw [if_pos hn]
    rw [hz, itoa_neg (by omega), show (-((rdt 0 (st l) : Nat) : Int)).natAbs = rdt 0 (st l) by omega, hd, ← e]
  · have e : l = st l := by unfold st; rw [if_neg hn]
    have hz : rz l = ((rdt 0 (st l) : Nat) : Int) := by unfold rz; rw [if_neg hn]
    rw [hz, itoa_pos (by omega), show (((rdt 0 (st l) : Nat) : Int)).natAbs = rdt 0 (st l) by omega, hd, ← e]

theorem good_iff (l : List UInt8) : Good l ↔ ∃ z, itoa z = l := ⟨fun h => ⟨rz l, itoa_good h⟩, fun ⟨z, e⟩ => e ▸ (good_itoa z).1⟩

theorem itoa_inj {x y : Int} (h : itoa x = itoa y) : x = y := by rw [← (good_itoa x).2, ← (good_itoa y).2, h]

theorem rd_lt (l : List UInt8) (h : ∀ b ∈ l, isD b) : rdt 0 l < 10 ^ l.length := by
  suffices H : ∀ (l : List UInt8), (∀ b ∈ l, isD b) → ∀ n, rdt n l < (n + 1) * 10 ^ l.length by
    have := H l h 0; simpa using this
  intro l
  induction l with
  | nil => intro _ n; unfold rdt; rw [List.foldl_nil, List.length_nil, Nat.pow_zero]; omega
  | cons b l ih =>
    intro h n
    have hb := (h b (by simp)).2
    have h1 := ih (fun c hc => h c (by simp [hc])) (10 * n + (b.toNat - 48))
    rw [List.length_cons, Nat.pow_succ, Nat.mul_comm (10 ^ l.length) 10, ← Nat.mul_assoc, rd_cons]
    refine Nat.lt_of_lt_of_le h1 (Nat.mul_le_mul_right _ (by omega))

theorem dec_len {u k : Nat} (h : u < 10 ^ k) (hk : 0 < k) : (decDigits u).length ≤ k := by
  rw [decDigits_length]
  induction k generalizing u with
  | zero => omega
  | succ k ih =>
    by_cases h1 : u < 10
    · rw [nDigits_small h1]; omega
    · rw [nDigits_big h1]
      rw [Nat.pow_succ] at h
      have hk0 : 0 < k := by
        rcases Nat.eq_zero_or_pos k with e | e
        · subst e; omega
        · exact e
      have := ih (u := u / 10) (by omega) hk0
      omega

end Go.Proofs.YtgdclneolgmggaaGreatDoor
