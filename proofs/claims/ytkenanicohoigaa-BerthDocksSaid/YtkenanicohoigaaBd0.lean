/- Docks: words, the error of one; CheckDocks. For all docks. -/
import Derived.Test.YtkenanicohoigaaBs0
namespace Go.Proofs.Ytkenanicohoigaa
open Go.RowKit Go.Maps Kb Wb

/-- A dock that came in. -/
structure Dkd where
  nm : ByteArray
  len : Int
  wid : Int
  sill : Int
  flr : Int
  gap : Int
/-- The slice at A reads as n of them. -/
structure Dkl (w : World) (B0 : Nat) (A : Option Addr) (n : Nat) (b : Nat → Dkd) : Prop where
  at_ : ∀ i, i < n → ∃ ad, A = some ad ∧ ad.block < B0 ∧ w.cell? (ad.add (i * 6)) = some (.string (b i).nm) ∧ w.cell? ⟨(ad.add (i * 6)).block, (ad.add (i * 6)).off + 1, none⟩ = some (.int .i64 (b i).len) ∧ w.cell? ⟨(ad.add (i * 6)).block, (ad.add (i * 6)).off + 2, none⟩ = some (.int .i64 (b i).wid) ∧ w.cell? ⟨(ad.add (i * 6)).block, (ad.add (i * 6)).off + 3, none⟩ = some (.int .i64 (b i).sill) ∧ w.cell? ⟨(ad.add (i * 6)).block, (ad.add (i * 6)).off + 4, none⟩ = some (.int .i64 (b i).flr) ∧ w.cell? ⟨(ad.add (i * 6)).block, (ad.add (i * 6)).off + 5, none⟩ = some (.int .i64 (b i).gap)
  le : B0 ≤ w.heap.size
theorem Dkl.below {w w' : World} {B0 n : Nat} {A : Option Addr} {b : Nat → Dkd} (h : Dkl w B0 A n b) (hb : Below w.heap.size w w') : Dkl w' B0 A n b :=
  ⟨fun i hi => by
    obtain ⟨ad, e, hl, h0, h1, h2, h3, h4, h5⟩ := h.at_ i hi
    have l := Nat.lt_of_lt_of_le hl h.le
    exact ⟨ad, e, hl, (hb.cell (p := ad.add (i * 6)) (in_add l)).trans h0, (hb.cell (p := ⟨(ad.add (i * 6)).block, (ad.add (i * 6)).off + 1, none⟩) (in_add l)).trans h1, (hb.cell (p := ⟨(ad.add (i * 6)).block, (ad.add (i * 6)).off + 2, none⟩) (in_add l)).trans h2, (hb.cell (p := ⟨(ad.add (i * 6)).block, (ad.add (i * 6)).off + 3, none⟩) (in_add l)).trans h3, (hb.cell (p := ⟨(ad.add (i * 6)).block, (ad.add (i * 6)).off + 4, none⟩) (in_add l)).trans h4, (hb.cell (p := ⟨(ad.add (i * 6)).block, (ad.add (i * 6)).off + 5, none⟩) (in_add l)).trans h5⟩, Nat.le_trans h.le hb.size⟩
/-- One of them in a box. -/
structure Dkb (w : World) (g : Nat) (x : Dkd) : Prop where
  b : Bk w g (.cells #[.string x.nm, .int .i64 x.len, .int .i64 x.wid, .int .i64 x.sill, .int .i64 x.flr, .int .i64 x.gap] 34)
theorem Dkb.below {w w' : World} {g : Nat} {x : Dkd} (h : Dkb w g x) (hb : Below w.heap.size w w') : Dkb w' g x := ⟨h.b.step hb⟩
theorem Dkb.new (w : World) (x : Dkd) {g : Nat} (hg : w.heap.size = g) : Dkb (w.alloc (.cells #[.string x.nm, .int .i64 x.len, .int .i64 x.wid, .int .i64 x.sill, .int .i64 x.flr, .int .i64 x.gap] 34)) g x := ⟨Bk.of_alloc w _ hg⟩
theorem Dkb.cells {w : World} {g : Nat} {x : Dkd} (h : Dkb w g x) : w.cell? ⟨g, 0, none⟩ = some (.string x.nm) ∧ w.cell? ⟨g, 1, none⟩ = some (.int .i64 x.len) ∧ w.cell? ⟨g, 2, none⟩ = some (.int .i64 x.wid) ∧ w.cell? ⟨g, 3, none⟩ = some (.int .i64 x.sill) ∧ w.cell? ⟨g, 4, none⟩ = some (.int .i64 x.flr) ∧ w.cell? ⟨g, 5, none⟩ = some (.int .i64 x.gap) := by
  have hh := fun i => cell_of_row w g i _ 34 (0, 0) h.b
  exact ⟨(hh 0).trans rfl, (hh 1).trans rfl, (hh 2).trans rfl, (hh 3).trans rfl, (hh 4).trans rfl, (hh 5).trans rfl⟩

set_option maxRecDepth 100000 in
theorem Dkname_any {w : World} (x : Dkd) :
    Calls Try.prog 19 #[.agg #[.string x.nm, .int .i64 x.len, .int .i64 x.wid, .int .i64 x.sill, .int .i64 x.flr, .int .i64 x.gap]] w fun e w' => e = .returned (.string x.nm) ∧ Below w.heap.size w w' := by
  have hb0 := alo (W := w) (o := (.cells #[.string x.nm, .int .i64 x.len, .int .i64 x.wid, .int .i64 x.sill, .int .i64 x.flr, .int .i64 x.gap] 34))
  have K := Dkb.new w x rfl
  obtain ⟨y0, y1, y2, y3, y4, y5⟩ := K.cells
  clear K
  go_enter Try.func19, Try.ntmps19
  go_wp2
  go_ret
  exact ⟨rfl, hb0⟩

def dkB (x : Dkd) : Bool := inB x.len (1) 1000000 && inB x.wid (1) 1000000 && inB x.sill (-1000000) 1000000 && inB x.flr (-1000000) 1000000 && inB x.gap (0) 1000000
theorem dkB_iff {x : Dkd} : dkB x = true ↔ (inB x.len (1) 1000000 = true ∧ inB x.wid (1) 1000000 = true ∧ inB x.sill (-1000000) 1000000 = true ∧ inB x.flr (-1000000) 1000000 = true ∧ inB x.gap (0) 1000000 = true) := by
  unfold dkB; simp only [Bool.and_eq_true, and_assoc]
theorem dkB_t {x : Dkd} (h : inB x.len (1) 1000000 = true ∧ inB x.wid (1) 1000000 = true ∧ inB x.sill (-1000000) 1000000 = true ∧ inB x.flr (-1000000) 1000000 = true ∧ inB x.gap (0) 1000000 = true) : dkB x = true := dkB_iff.2 h
theorem dkB_f0 {x : Dkd} (k : inB x.len (1) 1000000 = false) : dkB x = false := Bool.eq_false_iff.2 fun e => by have h := dkB_iff.1 e; rw [h.1] at k; cases k
theorem dkB_f1 {x : Dkd} (k : inB x.wid (1) 1000000 = false) : dkB x = false := Bool.eq_false_iff.2 fun e => by have h := dkB_iff.1 e; rw [h.2.1] at k; cases k
theorem dkB_f2 {x : Dkd} (k : inB x.sill (-1000000) 1000000 = false) : dkB x = false := Bool.eq_false_iff.2 fun e => by have h := dkB_iff.1 e; rw [h.2.2.1] at k; cases k
theorem dkB_f3 {x : Dkd} (k : inB x.flr (-1000000) 1000000 = false) : dkB x = false := Bool.eq_false_iff.2 fun e => by have h := dkB_iff.1 e; rw [h.2.2.2.1] at k; cases k
theorem dkB_f4 {x : Dkd} (k : inB x.gap (0) 1000000 = false) : dkB x = false := Bool.eq_false_iff.2 fun e => by have h := dkB_iff.1 e; rw [h.2.2.2.2] at k; cases k
def dockE (x : Dkd) : Int := if dkB x = true then 0 else 2

set_option maxRecDepth 100000 in
set_option maxHeartbeats 8000000 in
theorem Dkown_any {w : World} (x : Dkd) :
    Calls Try.prog 21 #[.agg #[.string x.nm, .int .i64 x.len, .int .i64 x.wid, .int .i64 x.sill, .int .i64 x.flr, .int .i64 x.gap]] w fun e w' => e = .returned (.int .i64 (dockE x)) ∧ Below w.heap.size w w' := by
  have HB0 := hid (alo (W := w) (o := (.cells #[.string x.nm, .int .i64 x.len, .int .i64 x.wid, .int .i64 x.sill, .int .i64 x.flr, .int .i64 x.gap] 34)))
  have HK := hid (Dkb.new w x rfl)
  cases k0 : inB x.len (1) 1000000
  case false =>
    rw [show dockE x = 2 from if_neg (fun h => by rw [dkB_f0 k0] at h; cases h)]
    go_enter Try.func21, Try.ntmps21
    obtain ⟨y0, y1, y2, y3, y4, y5⟩ := HK.out.cells
    go_wp2_with ((first | ((with_reducible refine (isPlace_any _ _).mono ?_); rintro e w' ⟨rfl, rfl⟩) | ((with_reducible refine (isSize_any _ _).mono ?_); rintro e w' ⟨rfl, rfl⟩) | ((with_reducible refine (isDistance_any _ _).mono ?_); rintro e w' ⟨rfl, rfl⟩)))
    go_ret
    exact ⟨rfl, HB0.out⟩
  case true =>
    cases k1 : inB x.wid (1) 1000000
    case false =>
      rw [show dockE x = 2 from if_neg (fun h => by rw [dkB_f1 k1] at h; cases h)]
      go_enter Try.func21, Try.ntmps21
      obtain ⟨y0, y1, y2, y3, y4, y5⟩ := HK.out.cells
      go_wp2_with ((first | ((with_reducible refine (isPlace_any _ _).mono ?_); rintro e w' ⟨rfl, rfl⟩) | ((with_reducible refine (isSize_any _ _).mono ?_); rintro e w' ⟨rfl, rfl⟩) | ((with_reducible refine (isDistance_any _ _).mono ?_); rintro e w' ⟨rfl, rfl⟩)))
      go_ret
      exact ⟨rfl, HB0.out⟩
    case true =>
      cases k2 : inB x.sill (-1000000) 1000000
      case false =>
        rw [show dockE x = 2 from if_neg (fun h => by rw [dkB_f2 k2] at h; cases h)]
        go_enter Try.func21, Try.ntmps21
        obtain ⟨y0, y1, y2, y3, y4, y5⟩ := HK.out.cells
        go_wp2_with ((first | ((with_reducible refine (isPlace_any _ _).mono ?_); rintro e w' ⟨rfl, rfl⟩) | ((with_reducible refine (isSize_any _ _).mono ?_); rintro e w' ⟨rfl, rfl⟩) | ((with_reducible refine (isDistance_any _ _).mono ?_); rintro e w' ⟨rfl, rfl⟩)))
        go_ret
        exact ⟨rfl, HB0.out⟩
      case true =>
        cases k3 : inB x.flr (-1000000) 1000000
        case false =>
          rw [show dockE x = 2 from if_neg (fun h => by rw [dkB_f3 k3] at h; cases h)]
          go_enter Try.func21, Try.ntmps21
          obtain ⟨y0, y1, y2, y3, y4, y5⟩ := HK.out.cells
          go_wp2_with ((first | ((with_reducible refine (isPlace_any _ _).mono ?_); rintro e w' ⟨rfl, rfl⟩) | ((with_reducible refine (isSize_any _ _).mono ?_); rintro e w' ⟨rfl, rfl⟩) | ((with_reducible refine (isDistance_any _ _).mono ?_); rintro e w' ⟨rfl, rfl⟩)))
          go_ret
          exact ⟨rfl, HB0.out⟩
        case true =>
          cases k4 : inB x.gap (0) 1000000
          case false =>
            rw [show dockE x = 2 from if_neg (fun h => by rw [dkB_f4 k4] at h; cases h)]
            go_enter Try.func21, Try.ntmps21
            obtain ⟨y0, y1, y2, y3, y4, y5⟩ := HK.out.cells
            go_wp2_with ((first | ((with_reducible refine (isPlace_any _ _).mono ?_); rintro e w' ⟨rfl, rfl⟩) | ((with_reducible refine (isSize_any _ _).mono ?_); rintro e w' ⟨rfl, rfl⟩) | ((with_reducible refine (isDistance_any _ _).mono ?_); rintro e w' ⟨rfl, rfl⟩)))
            go_ret
            exact ⟨rfl, HB0.out⟩
          case true =>
            rw [show dockE x = 0 from if_pos (dkB_t ⟨k0, k1, k2, k3, k4⟩)]
            go_enter Try.func21, Try.ntmps21
            obtain ⟨y0, y1, y2, y3, y4, y5⟩ := HK.out.cells
            go_wp2_with ((first | ((with_reducible refine (isPlace_any _ _).mono ?_); rintro e w' ⟨rfl, rfl⟩) | ((with_reducible refine (isSize_any _ _).mono ?_); rintro e w' ⟨rfl, rfl⟩) | ((with_reducible refine (isDistance_any _ _).mono ?_); rintro e w' ⟨rfl, rfl⟩)))
            go_ret
            exact ⟨rfl, HB0.out⟩

set_option maxRecDepth 100000 in
set_option maxHeartbeats 16000000 in
theorem Dklist_any {w : World} {B0 n c : Nat} {A : Option Addr} {b : Nat → Dkd} (h : Dkl w B0 A n b) (hn : n ≤ 1000) (hs : ∀ i, i < n → (b i).nm.size ≤ 1000000000) :
    Calls Try.prog 20 #[.slice A n c, .int .i64 4, .func (.func 19) #[] #[], .func (.func 21) #[] #[]] w fun e w' => ∃ r : Int, e = .returned (.int .i64 r) ∧ Hid (Lsg 4 n (fun i => (b i).nm) (fun i r => r = dockE (b i)) r) ∧ Below w.heap.size w w' := by
  by_cases hbig : 4 < n
  · have hd : decide ((4 : Int) < (n : Int)) = true := decide_eq_true (by omega)
    have HE := hid (show Lsg 4 n (fun i => (b i).nm) (fun i r => r = dockE (b i)) 8 from .inl ⟨hbig, rfl⟩)
    go_enter Try.func20, Try.ntmps20
    go_wp2
    go_ret
    exact ⟨8, rfl, HE, Below.refl _ _⟩
  · have hd : decide ((4 : Int) < (n : Int)) = false := decide_eq_false (by omega)
    have hmm := @run_makeMap Try.prog
    obtain ⟨mb, hmb⟩ : ∃ mb, w.heap.size = mb := ⟨_, rfl⟩
    have hz0 := Nz.new w (fun i => (b i).nm)
    rw [hmb] at hz0
    have hb0 := alo (W := w) (o := .map #[] 0)
    go_enter Try.func20, Try.ntmps20
    go_wp2_with fail
    clear hd hmm
    generalize w.alloc (.map #[] 0) = W0 at *
    have Hh := hid h
    have Hmb := hid hmb
    have Hs := hid hs
    have HZ0 := hid hz0
    have HB0 := hid hb0
    clear h hmb hs hz0 hb0
    go_loopw [21] (fun iv wr => ∃ (i : Nat), i ≤ n ∧ iv = .int .i64 i ∧ Hid (∀ j, j < i → LGood (fun i => (b i).nm) (fun i r => r = dockE (b i)) j) ∧ Hid (Nz wr mb (fun i => (b i).nm) i) ∧ Below w.heap.size w wr) (fun iv _ => n - (intOf iv).toNat)
    case atStart => exact ⟨0, Nat.zero_le _, rfl, hid (fun j hj => absurd hj (Nat.not_lt_zero _)), HZ0, HB0.out⟩
    case round =>
      obtain ⟨i, hi, rfl, HN, HZ, hbel⟩ := hrel
      have hw := Hh.out.below (hbel.mono (Nat.le_refl _))
      have Hbel := hid hbel
      clear hbel
      by_cases hlt : i < n
      · obtain ⟨ad, hA, hl, q0, q1, q2, q3, q4, q5⟩ := hw.at_ i hlt
        subst hA
        have hs9 := Hs.out i hlt
        have ha := alo (W := wr) (o := (.cells #[.string (b i).nm, .int .i64 (b i).len, .int .i64 (b i).wid, .int .i64 (b i).sill, .int .i64 (b i).flr, .int .i64 (b i).gap] 34))
        obtain ⟨gb, hgb⟩ : ∃ gb, wr.heap.size = gb := ⟨_, rfl⟩
        have jb := Bk.of_alloc wr (.cells #[.string (b i).nm, .int .i64 (b i).len, .int .i64 (b i).wid, .int .i64 (b i).sill, .int .i64 (b i).flr, .int .i64 (b i).gap] 34) hgb
        have Hba := hid (Hbel.out.trans (ha.mono Hbel.out.size))
        have HZa := hid (HZ.out.below ha)
        clear ha hw
        go_wp2_with fail
        generalize wr.alloc (.cells #[.string (b i).nm, .int .i64 (b i).len, .int .i64 (b i).wid, .int .i64 (b i).sill, .int .i64 (b i).flr, .int .i64 (b i).gap] 34) = wa at *
        have Hgb := hid hgb
        clear hgb q0 q1 q2 q3 q4 q5
        refine (Dkname_any (b i)).mono ?_
        rintro e w2 ⟨rfl, hb⟩
        have jb2 := jb.step hb
        have HB2 := hid (Hba.out.trans (hb.mono Hba.out.size))
        have HZ2 := hid (HZa.out.below hb)
        clear hb jb
        obtain ⟨y0, y1, y2, y3, y4, y5⟩ := (show Dkb w2 gb (b i) from ⟨jb2⟩).cells
        have wbad := fun (r : Int) (hx : LBad (fun i => (b i).nm) (fun i r => r = dockE (b i)) i r) => hid (show Lsg 4 n (fun i => (b i).nm) (fun i r => r = dockE (b i)) r from .inr ⟨by omega, .inl ⟨i, hlt, HN.out, hx⟩⟩)
        have Wbad := hid wbad
        clear wbad
        by_cases hnm : nameB (b i).nm = true
        · have HNM := hid hnm
          have hlk := HZ2.out.look (b i).nm (by unfold maxLen; omega)
          by_cases hsn : seenB (fun i => (b i).nm) i (b i).nm = true
          · have HE := Wbad.out 5 (.inr (.inl ⟨hnm, seen_iff.1 hsn, rfl⟩))
            rw [hsn] at hlk
            clear hsn
            go_wp2_with (((with_reducible refine (IsName_any _ _ hs9).mono ?_); rintro e w' ⟨rfl, rfl⟩))
            go_ret
            exact ⟨5, rfl, HE, HB2.out⟩
          · have hno : ∀ k, k < i → (b k).nm ≠ (b i).nm := fun k hk e => hsn (seenB_t ⟨k, hk, e⟩)
            rw [Bool.eq_false_iff.2 hsn] at hlk
            have Hno := hid hno
            clear hsn hno
            go_wp2_with (((with_reducible refine (IsName_any _ _ hs9).mono ?_); rintro e w' ⟨rfl, rfl⟩))
            refine (Dkown_any (b i)).mono ?_
            rintro e w4 ⟨rfl, hb⟩
            generalize hr0 : dockE (b i) = r
            have Hr0 := hid hr0
            clear hr0
            have hz : (fun i r => r = dockE (b i)) i r := Hr0.out.symm
            have jb4 := jb2.step hb
            have HB4 := hid (HB2.out.trans (hb.mono HB2.out.size))
            have HZ4 := hid (HZ2.out.below hb)
            clear hb jb2 y0 y1 y2 y3 y4 y5 hnm hlk
            by_cases hr : r = 0
            · subst hr
              have HG := hid (show LGood (fun i => (b i).nm) (fun i r => r = dockE (b i)) i from ⟨HNM.out, Hno.out, hz⟩)
              obtain ⟨f, ⟨D, hown, hD, hat⟩, hseen⟩ := HZ4.out
              obtain ⟨f', hat', hseen'⟩ := seen_put hD hat hseen
              have Hat := hid hat'
              have Hseen := hid hseen'
              have HD := hid hD
              clear hat hseen hat' hseen' hD hz
              have hil : i < maxLen := by unfold maxLen; omega
              go_wp2_with (at_mapUpdate; (refine wpList_mapUpdate_own _ rfl _ _ _ 65 rfl 9 4 law Try.underlying65 _ mb i _ rfl hown hil _ _ (.string (bl (b i).nm)) rfl rfl (Go.WideMaps.keyOf_string_mk Try.underlying9 (by unfold maxLen; omega)) (.lit (.bool true)) [] (plainElem_bool Try.underlying4 true) ?_))
              intro w5 hown5 hgrow
              have hb5 := HB4.out.grown hgrow HB4.out.size (fun k hk => by injection hk with hk; rw [← hk, ← Hmb.out]; exact Nat.le_refl _)
              have HZ5 := hid (show Nz w5 mb (fun i => (b i).nm) (i + 1) from ⟨f', ⟨_, hown5, HD.out.put _ _, Hat.out⟩, Hseen.out⟩)
              have HB5 := hid hb5
              clear hb5 hown hown5 hgrow hil
              go_wp2
              go_roundw
              case rel => exact ⟨i + 1, by omega, by go_num, hid (fun j hj => by rcases Nat.lt_or_ge j i with h | h; exact HN.out j h; have : j = i := (by omega); subst this; exact HG.out), HZ5, HB5.out⟩
              case measure => simp [intOf]; omega
            · have hq : (r != 0) = true := by rw [bne_iff_ne]; exact hr
              have HE := Wbad.out r (.inr (.inr ⟨HNM.out, Hno.out, hz, hr⟩))
              clear hr hz
              go_wp2
              go_ret
              exact ⟨r, rfl, HE, HB4.out⟩
        · have hnm' := Bool.eq_false_iff.2 hnm
          have HE := Wbad.out 4 (.inl ⟨hnm', rfl⟩)
          clear hnm
          go_wp2_with (((with_reducible refine (IsName_any _ _ hs9).mono ?_); rintro e w' ⟨rfl, rfl⟩))
          go_ret
          exact ⟨4, rfl, HE, HB2.out⟩
      · obtain rfl : i = n := by omega
        have HE := hid (show Lsg 4 i (fun i => (b i).nm) (fun i r => r = dockE (b i)) 0 from .inr ⟨by omega, .inr ⟨HN.out, rfl⟩⟩)
        go_wp2
        go_ret
        exact ⟨0, rfl, HE, Hbel.out⟩

/-- r is the error of a list of them. -/
abbrev Dkq (n : Nat) (b : Nat → Dkd) (r : Int) : Prop := Lsg 4 n (fun i => (b i).nm) (fun i r => r = dockE (b i)) r
theorem Dkq.same {n : Nat} {b : Nat → Dkd} {p q : Int} (h : Dkq n b p) (k : Dkq n b q) : p = q := Lsg.same (fun _ _ _ a b => a.trans b.symm) h k
theorem Dkq.exists (n : Nat) (b : Nat → Dkd) : ∃ r, Dkq n b r := Lsg.exists _ _ _ _ fun _ => ⟨_, rfl⟩
set_option maxRecDepth 100000 in
theorem Dkcheck_is {w : World} {B0 n c : Nat} {A : Option Addr} {b : Nat → Dkd} {q : Int} (hq : Hid (Dkq n b q)) (h : Dkl w B0 A n b) (hn : n ≤ 1000) (hs : ∀ i, i < n → (b i).nm.size ≤ 1000000000) :
    Calls Try.prog 7 #[.slice A n c] w fun e w' => e = .returned (.int .i64 q) ∧ Below w.heap.size w w' := by
  have Hh := hid h
  have Hs := hid hs
  clear h hs
  go_enter Try.func7, Try.ntmps7
  go_wp2_with fail
  refine (Dklist_any Hh.out hn Hs.out).mono ?_
  rintro e w2 ⟨r, rfl, hr, hb⟩
  obtain rfl := Dkq.same hr.out hq.out
  have HB := hid hb
  clear hb hr
  go_wp2
  go_ret
  exact ⟨rfl, HB.out⟩

end Go.Proofs.Ytkenanicohoigaa
