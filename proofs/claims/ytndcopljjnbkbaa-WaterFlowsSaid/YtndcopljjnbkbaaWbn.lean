/- Names: IsName of the program and of the reference. For all texts. -/
import Derived.Test.YtndcopljjnbkbaaWb0
namespace Go.Proofs.Ytndcopljjnbkbaa
open Go.RowKit Kb Wb

/-- A string's bytes. -/
abbrev bl (s : ByteArray) : List UInt8 := s.data.toList
theorem bl_len (s : ByteArray) : (bl s).length = s.size := Array.length_toList
theorem idx_run (s : ByteArray) (k : Nat) (b : UInt8) (h : (bl s)[k]? = some b) (z : Int) (hz : z = (k : Nat)) : ∀ W, (Instr.index 9 (.string s) (.int .i64 z)).run Try.prog W = .ok (.int .u8 ((b.toNat : Nat) : Int)) W := by
  intro W
  subst hz
  have hk : k < s.size := by rw [← bl_len]; exact (List.getElem?_eq_some_iff.1 h).1
  have hb : s[k]'hk = b := by
    obtain ⟨h1, h2⟩ := List.getElem?_eq_some_iff.1 h
    rw [← h2]
    simp [bl, ByteArray.getElem_eq_getElem_data]
  rw [run_index_string W _ _ _ _ Try.underlying9, dif_pos ⟨by omega, by omega⟩]
  simp only [Int.toNat_natCast, hb]
theorem bl_get {s : ByteArray} {k : Nat} (h : k < s.size) : ∃ b, (bl s)[k]? = some b := ⟨(bl s)[k]'(by rw [bl_len]; exact h), List.getElem?_eq_getElem _⟩
theorem take_snoc {l : List UInt8} {i : Nat} {b : UInt8} (h : l[i]? = some b) : l.take (i + 1) = l.take i ++ [b] := by
  rw [List.take_add_one, h]; rfl

def letB (c : Int) : Bool := decide (97 ≤ c ∧ c ≤ 122 ∨ 65 ≤ c ∧ c ≤ 90)
def digB (c : Int) : Bool := decide (48 ≤ c ∧ c ≤ 57)
theorem letB_t {c : Int} (h : 97 ≤ c ∧ c ≤ 122 ∨ 65 ≤ c ∧ c ≤ 90) : letB c = true := decide_eq_true h
theorem letB_f {c : Int} (h : ¬ (97 ≤ c ∧ c ≤ 122 ∨ 65 ≤ c ∧ c ≤ 90)) : letB c = false := decide_eq_false h
theorem digB_t {c : Int} (h : 48 ≤ c ∧ c ≤ 57) : digB c = true := decide_eq_true h
theorem digB_f {c : Int} (h : ¬ (48 ≤ c ∧ c ≤ 57)) : digB c = false := decide_eq_false h
theorem isDigit_any (c : Int) (w : World) :
    Calls Try.prog 107 #[.int .u8 c] w fun e w' => e = .returned (.bool (digB c)) ∧ w = w' := by
  by_cases h1 : 48 ≤ c <;> by_cases h2 : c ≤ 57
  all_goals
    have hp : digB c = decide (48 ≤ c ∧ c ≤ 57) := rfl
    simp only [h1, h2, and_self, and_true, and_false, decide_true, decide_false] at hp
    rw [hp]
    clear hp
    go_enter Try.func107, Try.ntmps107
    go_wp2
    go_ret
    exact ⟨rfl, rfl⟩
theorem isLetter_any (c : Int) (w : World) :
    Calls Try.prog 106 #[.int .u8 c] w fun e w' => e = .returned (.bool (letB c)) ∧ w = w' := by
  by_cases h1 : 97 ≤ c <;> by_cases h2 : c ≤ 122 <;> by_cases h3 : 65 ≤ c <;> by_cases h4 : c ≤ 90
  all_goals first | (exfalso; omega) | skip
  all_goals
    have hp : letB c = decide (97 ≤ c ∧ c ≤ 122 ∨ 65 ≤ c ∧ c ≤ 90) := rfl
    simp only [h1, h2, h3, h4, and_self, and_true, and_false, decide_true, decide_false, or_true, or_false, or_self] at hp
    rw [hp]
    clear hp
    go_enter Try.func106, Try.ntmps106
    go_wp2
    go_ret
    exact ⟨rfl, rfl⟩

/-- A letter of a name that may stand at place i. -/
def okAt (i : Nat) (b : UInt8) : Prop := letB (b.toNat : Int) = true ∨ (0 < i ∧ (digB (b.toNat : Int) = true ∨ (b.toNat : Int) = 45))
/-- A name. -/
def IsNm (l : List UInt8) : Prop := 1 ≤ l.length ∧ l.length ≤ 12 ∧ ∀ i b, l[i]? = some b → okAt i b
noncomputable def nameB (s : ByteArray) : Bool := @decide (IsNm (bl s)) (Classical.propDecidable _)
theorem nameB_t {s : ByteArray} (h : IsNm (bl s)) : nameB s = true := @decide_eq_true _ (Classical.propDecidable _) h
theorem nameB_f {s : ByteArray} (h : ¬ IsNm (bl s)) : nameB s = false := @decide_eq_false _ (Classical.propDecidable _) h
theorem nameB_size {s : ByteArray} (h : nameB s = true) : 1 ≤ s.size ∧ s.size ≤ 12 := by
  have := @of_decide_eq_true _ (Classical.propDecidable _) h
  rw [IsNm, bl_len] at this
  exact ⟨this.1, this.2.1⟩

set_option maxRecDepth 100000 in
set_option maxHeartbeats 2000000 in
theorem IsName_any (s : ByteArray) (w : World) (hs : s.size ≤ 1000000000) :
    Calls Try.prog 99 #[.string s] w fun e w' => e = .returned (.bool (nameB s)) ∧ w = w' := by
  by_cases hr : inB (s.size : Int) 1 12 = true
  · have hr' := inB_iff.1 hr
    obtain ⟨b0, hb0⟩ := bl_get (s := s) (k := 0) (by omega)
    have hi0 := idx_run s 0 b0 hb0 0 rfl
    by_cases hl : letB (b0.toNat : Int) = true
    · obtain ⟨p, hp⟩ : ∃ p, nameB s = p := ⟨_, rfl⟩
      rw [hp]
      have Hp := hid hp
      have Hl := hid hl
      clear hp
      have Hr := hid hr'
      have Hb0 := hid hb0
      clear hb0 hr'
      go_enter Try.func99, Try.ntmps99
      go_wp2_with (first | ((with_reducible refine (Within_any _ _ _ _).mono ?_); rintro e w' ⟨rfl, rfl⟩) | ((with_reducible refine (isLetter_any _ _).mono ?_); rintro e w' ⟨rfl, rfl⟩))
      clear hr hl hi0
      go_loop [16] (fun iv => ∃ i : Nat, i ≤ s.size ∧ iv = .int .i64 i ∧ Hid (∀ j b, j < i → (bl s)[j]? = some b → okAt j b)) (fun iv => s.size - (intOf iv).toNat)
      case atStart => exact ⟨0, Nat.zero_le _, rfl, hid (fun j b hj => absurd hj (Nat.not_lt_zero _))⟩
      case round =>
        obtain ⟨i, hi, rfl, HN⟩ := hrel
        by_cases hlt : i < s.size
        · obtain ⟨b, hb⟩ := bl_get hlt
          have hib := idx_run s i b hb i rfl
          have nx : okAt i b → Hid (∀ j b, j < i + 1 → (bl s)[j]? = some b → okAt j b) := fun ho => hid fun j c hj hc => by
            by_cases e : j = i
            · subst e; rw [hb] at hc; injection hc with hc; subst hc; exact ho
            · exact HN.out j c (by omega) hc
          have h0 : i = 0 → letB (b.toNat : Int) = true := fun e => by
            subst e
            have := Hb0.out
            rw [hb] at this
            injection this with this
            subst this
            exact Hl.out
          by_cases h1 : letB (b.toNat : Int) = true
          · have NX := nx (.inl h1)
            clear nx hb h0
            go_wp2_with (first | ((with_reducible refine (isLetter_any _ _).mono ?_); rintro e w' ⟨rfl, rfl⟩) | ((with_reducible refine (isDigit_any _ _).mono ?_); rintro e w' ⟨rfl, rfl⟩))
            go_round
            case rel => exact ⟨i + 1, by omega, by go_num, NX⟩
            case measure => simp [intOf]; omega
          · have hpos : 0 < i := by
              rcases Nat.eq_zero_or_pos i with e | e
              · exact absurd (h0 e) h1
              · exact e
            have h1' := Bool.eq_false_iff.2 h1
            by_cases h2 : digB (b.toNat : Int) = true
            · have NX := nx (.inr ⟨hpos, .inl h2⟩)
              clear nx hb h0 h1
              go_wp2_with (first | ((with_reducible refine (isLetter_any _ _).mono ?_); rintro e w' ⟨rfl, rfl⟩) | ((with_reducible refine (isDigit_any _ _).mono ?_); rintro e w' ⟨rfl, rfl⟩))
              go_round
              case rel => exact ⟨i + 1, by omega, by go_num, NX⟩
              case measure => simp [intOf]; omega
            · have h2' := Bool.eq_false_iff.2 h2
              by_cases h3 : (b.toNat : Int) = 45
              · have NX := nx (.inr ⟨hpos, .inr h3⟩)
                have h3' : ((b.toNat : Int) == 45) = true := by rw [beq_iff_eq]; exact h3
                clear nx hb h0 h1 h2
                go_wp2_with (first | ((with_reducible refine (isLetter_any _ _).mono ?_); rintro e w' ⟨rfl, rfl⟩) | ((with_reducible refine (isDigit_any _ _).mono ?_); rintro e w' ⟨rfl, rfl⟩))
                go_round
                case rel => exact ⟨i + 1, by omega, by go_num, NX⟩
                case measure => simp [intOf]; omega
              · have hf : nameB s = false := nameB_f fun hn => by
                  rcases hn.2.2 i b hb with h | ⟨_, h | h⟩
                  · exact h1 h
                  · exact h2 h
                  · exact h3 h
                have hp := Hp.out
                rw [hf] at hp
                subst hp
                have h3' : ((b.toNat : Int) == 45) = false := by rw [beq_eq_false_iff_ne]; exact h3
                clear nx hb h0 h1 h2 hf
                go_wp2_with (first | ((with_reducible refine (isLetter_any _ _).mono ?_); rintro e w' ⟨rfl, rfl⟩) | ((with_reducible refine (isDigit_any _ _).mono ?_); rintro e w' ⟨rfl, rfl⟩))
                go_ret
                exact ⟨rfl, rfl⟩
        · obtain rfl : i = s.size := by omega
          have ht : nameB s = true := nameB_t ⟨by have := Hr.out; rw [bl_len]; omega, by have := Hr.out; rw [bl_len]; omega, fun j b hb => HN.out j b (by have := (List.getElem?_eq_some_iff.1 hb).1; rw [bl_len] at this; exact this) hb⟩
          have hp := Hp.out
          rw [ht] at hp
          subst hp
          clear ht
          go_wp2
          go_ret
          exact ⟨rfl, rfl⟩
    · have hf : nameB s = false := nameB_f fun hn => by
        rcases hn.2.2 0 b0 hb0 with h | ⟨h, _⟩
        · exact hl h
        · omega
      rw [hf]
      have hl' := Bool.eq_false_iff.2 hl
      clear hl hf hr' hb0
      go_enter Try.func99, Try.ntmps99
      go_wp2_with (first | ((with_reducible refine (Within_any _ _ _ _).mono ?_); rintro e w' ⟨rfl, rfl⟩) | ((with_reducible refine (isLetter_any _ _).mono ?_); rintro e w' ⟨rfl, rfl⟩))
      go_ret
      exact ⟨rfl, rfl⟩
  · have hf : nameB s = false := nameB_f fun hn => hr (inB_t (by rw [IsNm, bl_len] at hn; exact ⟨by have := hn.1; omega, by have := hn.2.1; omega⟩))
    rw [hf]
    have hr' := Bool.eq_false_iff.2 hr
    clear hr hf
    go_enter Try.func99, Try.ntmps99
    go_wp2_with (first | ((with_reducible refine (Within_any _ _ _ _).mono ?_); rintro e w' ⟨rfl, rfl⟩) | ((with_reducible refine (isLetter_any _ _).mono ?_); rintro e w' ⟨rfl, rfl⟩))
    go_ret
    exact ⟨rfl, rfl⟩

set_option maxRecDepth 100000 in
set_option maxHeartbeats 4000000 in
theorem rIsName_any (s : ByteArray) (w : World) (hs : s.size ≤ 1000000000) :
    Calls Try.prog 39 #[.string s] w fun e w' => e = .returned (.bool (nameB s)) ∧ w = w' := by
  by_cases h0 : s.size < 1
  · have hf : nameB s = false := nameB_f fun hn => by rw [IsNm, bl_len] at hn; omega
    rw [hf]
    clear hf
    go_enter Try.func39, Try.ntmps39
    go_wp2
    go_ret
    exact ⟨rfl, rfl⟩
  · by_cases h12 : 12 < s.size
    · have hf : nameB s = false := nameB_f fun hn => by rw [IsNm, bl_len] at hn; omega
      rw [hf]
      clear hf
      go_enter Try.func39, Try.ntmps39
      go_wp2
      go_ret
      exact ⟨rfl, rfl⟩
    · obtain ⟨p, hp⟩ : ∃ p, nameB s = p := ⟨_, rfl⟩
      rw [hp]
      have Hp := hid hp
      clear hp
      go_enter Try.func39, Try.ntmps39
      go_wp2
      go_loop [3, 4, 5] (fun iv _ _ => ∃ i : Nat, i ≤ s.size ∧ iv = .int .i64 i ∧ Hid (∀ j b, j < i → (bl s)[j]? = some b → okAt j b)) (fun iv _ _ => s.size - (intOf iv).toNat)
      case atStart => exact ⟨0, Nat.zero_le _, rfl, hid (fun j b hj => absurd hj (Nat.not_lt_zero _))⟩
      case round =>
        obtain ⟨i, hi, rfl, HN⟩ := hrel
        by_cases hlt : i < s.size
        · obtain ⟨b, hb⟩ := bl_get hlt
          have hib := idx_run s i b hb i rfl
          have nx : okAt i b → Hid (∀ j b, j < i + 1 → (bl s)[j]? = some b → okAt j b) := fun ho => hid fun j c hj hc => by
            by_cases e : j = i
            · subst e; rw [hb] at hc; injection hc with hc; subst hc; exact ho
            · exact HN.out j c (by omega) hc
          have bad : ¬ okAt i b → p = false := fun ho => by
            rw [← Hp.out]
            exact nameB_f fun hn => ho (hn.2.2 i b hb)
          have ltf : ¬ (97 ≤ (b.toNat : Int) ∧ (b.toNat : Int) ≤ 122 ∨ 65 ≤ (b.toNat : Int) ∧ (b.toNat : Int) ≤ 90) → ¬ letB (b.toNat : Int) = true := fun h e => by rw [letB_f h] at e; cases e
          have dgf : ¬ (48 ≤ (b.toNat : Int) ∧ (b.toNat : Int) ≤ 57) → ¬ digB (b.toNat : Int) = true := fun h e => by rw [digB_f h] at e; cases e
          clear hb
          by_cases k1 : 97 ≤ (b.toNat : Int)
          · by_cases k2 : (b.toNat : Int) ≤ 122
            · have NX := nx (.inl (letB_t (.inl ⟨k1, k2⟩)))
              clear nx bad ltf dgf
              go_wp2
              go_round
              case rel => exact ⟨i + 1, by omega, by go_num, NX⟩
              case measure => simp [intOf]; omega
            · have hf := bad fun ho => by
                rcases ho with h | ⟨_, h | h⟩
                · exact ltf (by omega) h
                · exact dgf (by omega) h
                · omega
              subst hf
              clear nx bad ltf dgf
              have hne : ((b.toNat : Int) == 45) = false := by rw [beq_eq_false_iff_ne]; omega
              have d1 : decide ((b.toNat : Int) ≤ 90) = false := decide_eq_false (by omega)
              have d3 : ((b.toNat : Int) != 45) = true := by rw [bne_iff_ne]; omega
              have d4 : decide ((b.toNat : Int) ≤ 57) = false := decide_eq_false (by omega)
              have d5 : decide ((b.toNat : Int) < 48) = false := decide_eq_false (by omega)
              have d6 : decide (57 < (b.toNat : Int)) = true := decide_eq_true (by omega)
              have d2 : decide ((b.toNat : Int) ≤ 122) = false := decide_eq_false (by omega)
              by_cases e0 : i = 0
              · have e1 : ((i : Int) == 0) = true := by rw [beq_iff_eq]; omega
                have E0 := hid e0
                clear e0
                go_wp2
                go_ret
                exact ⟨rfl, rfl⟩
              · have e1 : ((i : Int) == 0) = false := by rw [beq_eq_false_iff_ne]; omega
                go_wp2
                go_ret
                exact ⟨rfl, rfl⟩
          · by_cases k3 : 65 ≤ (b.toNat : Int)
            · by_cases k4 : (b.toNat : Int) ≤ 90
              · have NX := nx (.inl (letB_t (.inr ⟨k3, k4⟩)))
                clear nx bad ltf dgf
                go_wp2
                go_round
                case rel => exact ⟨i + 1, by omega, by go_num, NX⟩
                case measure => simp [intOf]; omega
              · have hf := bad fun ho => by
                  rcases ho with h | ⟨_, h | h⟩
                  · exact ltf (by omega) h
                  · exact dgf (by omega) h
                  · omega
                subst hf
                clear nx bad ltf dgf
                have hne : ((b.toNat : Int) == 45) = false := by rw [beq_eq_false_iff_ne]; omega
                have d1 : decide ((b.toNat : Int) ≤ 90) = false := decide_eq_false (by omega)
                have d3 : ((b.toNat : Int) != 45) = true := by rw [bne_iff_ne]; omega
                have d4 : decide ((b.toNat : Int) ≤ 57) = false := decide_eq_false (by omega)
                have d5 : decide ((b.toNat : Int) < 48) = false := decide_eq_false (by omega)
                have d6 : decide (57 < (b.toNat : Int)) = true := decide_eq_true (by omega)
                by_cases e0 : i = 0
                · have e1 : ((i : Int) == 0) = true := by rw [beq_iff_eq]; omega
                  have E0 := hid e0
                  clear e0
                  go_wp2
                  go_ret
                  exact ⟨rfl, rfl⟩
                · have e1 : ((i : Int) == 0) = false := by rw [beq_eq_false_iff_ne]; omega
                  go_wp2
                  go_ret
                  exact ⟨rfl, rfl⟩
            · by_cases e0 : i = 0
              · have hf := bad fun ho => by
                  rcases ho with h | ⟨h, _⟩
                  · exact ltf (by omega) h
                  · omega
                subst hf
                have e1 : ((i : Int) == 0) = true := by rw [beq_iff_eq]; omega
                have E0 := hid e0
                clear e0
                clear nx bad ltf dgf
                go_wp2
                go_ret
                exact ⟨rfl, rfl⟩
              · have e1 : ((i : Int) == 0) = false := by rw [beq_eq_false_iff_ne]; omega
                by_cases k5 : (b.toNat : Int) = 45
                · have NX := nx (.inr ⟨by omega, .inr k5⟩)
                  have hne : ((b.toNat : Int) == 45) = true := by rw [beq_iff_eq]; exact k5
                  clear nx bad ltf dgf
                  have K5 := hid k5
                  clear k5
                  go_wp2
                  go_round
                  case rel => exact ⟨i + 1, by omega, by go_num, NX⟩
                  case measure => simp [intOf]; omega
                · have hne : ((b.toNat : Int) == 45) = false := by rw [beq_eq_false_iff_ne]; omega
                  by_cases k6 : (b.toNat : Int) < 48
                  · have hf := bad fun ho => by
                      rcases ho with h | ⟨_, h | h⟩
                      · exact ltf (by omega) h
                      · exact dgf (by omega) h
                      · exact k5 h
                    subst hf
                    clear nx bad ltf dgf
                    go_wp2
                    go_ret
                    exact ⟨rfl, rfl⟩
                  · by_cases k7 : 57 < (b.toNat : Int)
                    · have hf := bad fun ho => by
                        rcases ho with h | ⟨_, h | h⟩
                        · exact ltf (by omega) h
                        · exact dgf (by omega) h
                        · exact k5 h
                      subst hf
                      clear nx bad ltf dgf
                      go_wp2
                      go_ret
                      exact ⟨rfl, rfl⟩
                    · have NX := nx (.inr ⟨by omega, .inl (digB_t ⟨by omega, by omega⟩)⟩)
                      clear nx bad ltf dgf
                      go_wp2
                      go_round
                      case rel => exact ⟨i + 1, by omega, by go_num, NX⟩
                      case measure => simp [intOf]; omega
        · obtain rfl : i = s.size := by omega
          have ht : nameB s = true := nameB_t ⟨by rw [bl_len]; omega, by rw [bl_len]; omega, fun j b hb => HN.out j b (by have := (List.getElem?_eq_some_iff.1 hb).1; rw [bl_len] at this; exact this) hb⟩
          have hp := Hp.out
          rw [ht] at hp
          subst hp
          clear ht
          go_wp2
          go_ret
          exact ⟨rfl, rfl⟩

end Go.Proofs.Ytndcopljjnbkbaa
