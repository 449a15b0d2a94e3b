/- appendGroup: four digits behind a text. For texts of at most a million bytes and groups below ten thousand. -/
import Derived.Test.YtgdclneolgmggaaGreatDoorMB
import Derived.Test.YtgdclneolgmggaaGreatDoorDcm
import Derived.Test.YtgdclneolgmggaaGreatDoorShelf
namespace Go.Proofs.YtgdclneolgmggaaGreatDoor
open Go.RowKit Kb

theorem Tryz.info8 : (Tryz.prog.info? 5).map (fun i => (i.zero, i.size, i.bytes)) = some (some (.int .u8 0), 1, 1) := by kernel_rfl

/-- The four digits of a group. -/
def four (g : Nat) : List UInt8 := [UInt8.ofNat (48 + g / 1000), UInt8.ofNat (48 + g / 100 % 10), UInt8.ofNat (48 + g / 10 % 10), UInt8.ofNat (48 + g % 10)]

theorem byte_of (x : Nat) (h : x < 10) (z : Int) (hz : z = (x : Int)) : IntKind.u8.wrap (48 + IntKind.u8.wrap z) = ((UInt8.ofNat (48 + x)).toNat : Int) := by
  subst hz
  rw [ofNat_toNat h, IntKind.wrap_u8, IntKind.wrap_u8]; omega

theorem four_cells (w : World) (T : TypeId) (l : List Value) : ∀ j u, l[j]? = some u → (w.alloc (.cells l.toArray T)).cell? ((⟨w.heap.size, 0, none⟩ : Addr).add j) = some u := by
  intro j u hj
  rw [Lib.add_plain, cell_of_row _ _ _ _ T (0, 0) (heap_alloc_new w _)]
  simpa using hj

def news4 (g : Nat) : List Value := [.int .u8 (48 + (g : Int) / 1000), .int .u8 (48 + (g : Int) / 100 % 10), .int .u8 (48 + (g : Int) / 10 % 10), .int .u8 (48 + (g : Int) % 10)]
theorem dig_of (x : Nat) (h : x < 10) (z : Int) (hz : z = (x : Int)) : Value.int .u8 (48 + z) = Value.int .u8 ((UInt8.ofNat (48 + x)).toNat : Int) := by
  subst hz
  rw [ofNat_toNat h]; exact val_int (by omega)
theorem four_news {g : Nat} (h : g < 10000) : news4 g = Lib.byteCells (four g) := by
  unfold news4 four Lib.byteCells
  simp only [List.map_cons, List.map_nil]
  rw [dig_of (g / 1000) (by omega) _ (by omega), dig_of (g / 100 % 10) (by omega) _ (by omega), dig_of (g / 10 % 10) (by omega) _ (by omega), dig_of (g % 10) (by omega) _ (by omega)]

set_option maxRecDepth 100000 in
set_option maxHeartbeats 2000000 in
theorem appendGroup_any (B n g : Nat) (sv : Value) (xs : List Value) (w : World) (hown : w.ownsRow B 5 1 sv n xs) (hB : B ≤ w.heap.size) (hn : n ≤ 1000000) (hg : g < 10000) :
    Calls Tryz.prog 42 #[sv, .int .u16 g] w fun e w' => ∃ v', e = .returned v' ∧ w'.ownsRow B 5 1 v' (n + 4) (xs ++ Lib.byteCells (four g)) ∧ Below B w w' := by
  obtain ⟨i0, hi, hz0, hz1, hz2⟩ := info_parts Tryz.info8
  go_enter Tryz.func42, Tryz.ntmps42
  have hown' := hown.alloc (.cells (news4 g).toArray 5)
  have hB' : B ≤ (w.alloc (.cells (news4 g).toArray 5)).heap.size := by simp; omega
  have hcl := four_cells w 5 (news4 g)
  have hbel := (Below.refl B w).alloc hB (.cells (news4 g).toArray 5)
  have hfour := hid (four_news hg)
  go_wp2_with (at_builtin; (refine wpList_append_own _ rfl (.tmp 5) (.tmp 24) 77 rfl B 5 i0 (.int .u8 0) 1 1 Tryz.underlying77 hi hz0 hz1 hz2 rfl (by decide) sv n xs rfl hown' ⟨w.heap.size, 0, none⟩ 4 4 (news4 g) rfl rfl hcl ?_ (by unfold maxLen; omega) (by omega) hB' ?_))
  · intro u hu; simp only [news4, List.mem_cons, List.not_mem_nil, or_false] at hu; rcases hu with rfl | rfl | rfl | rfl <;> rfl
  intro v' w1 hown1 hgrow _
  have hb1 := hbel.grown hgrow hB' (fun k hk => (hown'.lt k hk).1)
  go_wp2
  go_ret
  exact ⟨v', rfl, by rw [← hfour.out]; exact hown1, hb1⟩

end Go.Proofs.YtgdclneolgmggaaGreatDoor
