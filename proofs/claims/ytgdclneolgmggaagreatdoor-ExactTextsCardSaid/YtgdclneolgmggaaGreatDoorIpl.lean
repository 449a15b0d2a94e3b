/- isPlain: whether a text is digits without a zero that could be left out. For all texts of at most a million bytes. -/
import Derived.Test.YtgdclneolgmggaaGreatDoorMA
import Derived.Test.YtgdclneolgmggaaGreatDoorDcm
namespace Go.Proofs.YtgdclneolgmggaaGreatDoor
open Go.RowKit Kb

/-- A string's bytes. -/
abbrev bl (s : ByteArray) : List UInt8 := s.data.toList
theorem bl_len (s : ByteArray) : (bl s).length = s.size := Array.length_toList
theorem bl_of (l : List UInt8) : bl ⟨l.toArray⟩ = l := rfl
theorem bl_inj {s t : ByteArray} (h : bl s = bl t) : s = t := by
  cases s; cases t
  simp only [bl] at h
  congr 1
  exact Array.toList_inj.1 h

theorem idx_run (s : ByteArray) (k : Nat) (b : UInt8) (h : (bl s)[k]? = some b) (z : Int) (hz : z = (k : Nat)) : ∀ W, (Instr.index 9 (.string s) (.int .i64 z)).run Tryz.prog W = .ok (.int .u8 ((b.toNat : Nat) : Int)) W := by
  intro W
  subst hz
  have hk : k < s.size := by rw [← bl_len]; exact (List.getElem?_eq_some_iff.1 h).1
  have hb : s[k]'hk = b := by
    obtain ⟨h1, h2⟩ := List.getElem?_eq_some_iff.1 h
    rw [← h2]
    simp [bl, ByteArray.getElem_eq_getElem_data]
  rw [run_index_string W _ _ _ _ Tryz.underlying9, dif_pos ⟨by omega, by omega⟩]
  simp only [Int.toNat_natCast, hb]

theorem bl_get {s : ByteArray} {k : Nat} (h : k < s.size) : ∃ b, (bl s)[k]? = some b := ⟨(bl s)[k]'(by rw [bl_len]; exact h), List.getElem?_eq_getElem _⟩

theorem tl_eq (s : ByteArray) : s.toList = bl s := ByteArray.toList_eq s

/-- What stands behind i digits. -/
theorem take_snoc {l : List UInt8} {i : Nat} {b : UInt8} (h : l[i]? = some b) : l.take (i + 1) = l.take i ++ [b] := by
  rw [List.take_add_one, h]; rfl

set_option maxRecDepth 100000 in
set_option maxHeartbeats 2000000 in
theorem isPlain_any (s : ByteArray) (w : World) (hs : s.size ≤ 1000000) (p : Bool) (hp : p = true ↔ Pl (bl s)) :
    Calls Tryz.prog 81 #[.string s] w fun e w' => e = .returned (.bool p) ∧ w = w' := by
  by_cases h0 : s.toList = []
  · have hf : p = false := by
      cases p with
      | false => rfl
      | true => exact absurd (by rw [← tl_eq, h0]) (hp.1 rfl).1
    subst hf
    go_enter Tryz.func81, Tryz.ntmps81
    go_wp2
    go_ret
    exact ⟨rfl, rfl⟩
  · have hE : s.toList.isEmpty = false := by rw [List.isEmpty_eq_false_iff]; exact h0
    have h0' : 0 < s.size := by
      rcases Nat.eq_zero_or_pos s.size with e | e
      · exact absurd (List.eq_nil_of_length_eq_zero (by rw [tl_eq, bl_len]; exact e)) h0
      · exact e
    obtain ⟨b0, hb0⟩ := bl_get h0'
    have hi0 := idx_run s 0 b0 hb0 0 rfl
    have hhead : (bl s).head? = some b0 := by rw [List.head?_eq_getElem?]; exact hb0
    by_cases hz : b0.toNat = 48
    · by_cases hz2 : s.toList = [48]
      · have hZ : (s.toList == [48]) = true := by rw [hz2]; rfl
        have hz1 : b0.toNat = 48 → s.toList = [48] := fun _ => hz2
        have hz3 : ((b0.toNat : Int)) = 48 := by omega
        clear hz2
        go_enter Tryz.func81, Tryz.ntmps81
        go_wp2
        clear hE hZ hz3 hi0 hb0
        go_loop [17] (fun iv => ∃ i : Nat, i ≤ s.size ∧ iv = .int .i64 i ∧ ∀ b ∈ (bl s).take i, isD b) (fun iv => s.size - (intOf iv).toNat)
        case atStart => exact ⟨0, by omega, rfl, by simp⟩
        case round =>
          obtain ⟨i, hi, rfl, hd⟩ := hrel
          by_cases hlt : i < s.size
          · obtain ⟨b, hb⟩ := bl_get hlt
            have hib := idx_run s i b hb i rfl
            have Hd := hid hd
            clear hd
            by_cases h48 : b.toNat < 48
            · have hf : p = false := by
                cases p with
                | false => rfl
                | true => exact absurd ((hp.1 rfl).2.1 b (List.mem_of_getElem? hb)).1 (by omega)
              subst hf
              go_wp2
              go_ret
              exact ⟨rfl, rfl⟩
            · by_cases h57 : 57 < b.toNat
              · have hf : p = false := by
                  cases p with
                  | false => rfl
                  | true => exact absurd ((hp.1 rfl).2.1 b (List.mem_of_getElem? hb)).2 (by omega)
                subst hf
                go_wp2
                go_ret
                exact ⟨rfl, rfl⟩
              · have hs' := hid (take_snoc hb)
                go_wp2
                go_round
                case rel =>
                  refine ⟨i + 1, by omega, by go_num, ?_⟩
                  rw [hs'.out]
                  intro c hc
                  rcases List.mem_append.1 hc with hc | hc
                  · exact Hd.out c hc
                  · rw [List.mem_singleton] at hc; subst hc; exact ⟨by omega, by omega⟩
                case measure => simp [intOf]; omega
          · obtain rfl : i = s.size := by omega
            have ht : p = true := by
              refine hp.2 ⟨fun e => h0 (by rw [tl_eq]; exact e), fun b hb => hd b (by rw [← bl_len, List.take_length]; exact hb), fun e => ?_⟩
              rw [hhead] at e
              have e1 : b0 = 48 := by injection e
              rw [← tl_eq]
              exact hz1 (by rw [e1]; rfl)
            subst ht
            clear hd
            go_wp2
            go_ret
            exact ⟨rfl, rfl⟩
      · have hf : p = false := by
          cases p with
          | false => rfl
          | true =>
            have h48 : b0 = 48 := UInt8.toNat_inj.1 (by rw [hz]; rfl)
            exact absurd (by rw [tl_eq]; exact (hp.1 rfl).2.2 (by rw [hhead, h48])) hz2
        have hZ : (s.toList == [48]) = false := by rw [beq_eq_false_iff_ne]; exact hz2
        have hz3 : ((b0.toNat : Int)) = 48 := by omega
        subst hf
        clear hz2
        go_enter Tryz.func81, Tryz.ntmps81
        go_wp2
        go_ret
        exact ⟨rfl, rfl⟩
    · have hz1 : b0.toNat = 48 → s.toList = [48] := fun e => absurd e hz
      have hz3 : ((b0.toNat : Int) == 48) = false := by rw [beq_eq_false_iff_ne]; omega
      have hz4 : ¬ ((b0.toNat : Int)) = 48 := by omega
      go_enter Tryz.func81, Tryz.ntmps81
      go_wp2
      clear hE hz3 hz4 hi0 hb0
      go_loop [17] (fun iv => ∃ i : Nat, i ≤ s.size ∧ iv = .int .i64 i ∧ ∀ b ∈ (bl s).take i, isD b) (fun iv => s.size - (intOf iv).toNat)
      case atStart => exact ⟨0, by omega, rfl, by simp⟩
      case round =>
        obtain ⟨i, hi, rfl, hd⟩ := hrel
        by_cases hlt : i < s.size
        · obtain ⟨b, hb⟩ := bl_get hlt
          have hib := idx_run s i b hb i rfl
          have Hd := hid hd
          clear hd
          by_cases h48 : b.toNat < 48
          · have hf : p = false := by
              cases p with
              | false => rfl
              | true => exact absurd ((hp.1 rfl).2.1 b (List.mem_of_getElem? hb)).1 (by omega)
            subst hf
            go_wp2
            go_ret
            exact ⟨rfl, rfl⟩
          · by_cases h57 : 57 < b.toNat
            · have hf : p = false := by
                cases p with
                | false => rfl
                | true => exact absurd ((hp.1 rfl).2.1 b (List.mem_of_getElem? hb)).2 (by omega)
              subst hf
              go_wp2
              go_ret
              exact ⟨rfl, rfl⟩
            · have hs' := hid (take_snoc hb)
              go_wp2
              go_round
              case rel =>
                refine ⟨i + 1, by omega, by go_num, ?_⟩
                rw [hs'.out]
                intro c hc
                rcases List.mem_append.1 hc with hc | hc
                · exact Hd.out c hc
                · rw [List.mem_singleton] at hc; subst hc; exact ⟨by omega, by omega⟩
              case measure => simp [intOf]; omega
        · obtain rfl : i = s.size := by omega
          have ht : p = true := by
            refine hp.2 ⟨fun e => h0 (by rw [tl_eq]; exact e), fun b hb => hd b (by rw [← bl_len, List.take_length]; exact hb), fun e => ?_⟩
            rw [hhead] at e
            have e1 : b0 = 48 := by injection e
            rw [← tl_eq]
            exact hz1 (by rw [e1]; rfl)
          subst ht
          clear hd
          go_wp2
          go_ret
          exact ⟨rfl, rfl⟩

end Go.Proofs.YtgdclneolgmggaaGreatDoor
