/- Table of the program. -/
import Derived.Test.YtkghlijmlifmjaaCB
import Derived.Deep.WholeRow
namespace Go.Proofs.Ytkghlijmlifmjaa
open Go.RowKit
set_option maxHeartbeats 2000000
set_option maxRecDepth 100000
/-- The table's cells, so many filled. -/
@[irreducible] def tc (k : Nat) : Array Value := ((List.range 256).map (fun i => Value.int .u32 (if i < k then J (tab (UInt8.ofNat i)) else 0))).toArray
theorem tc_size (k : Nat) : (tc k).size = 256 := by unfold tc; simp
theorem tc_at (k i : Nat) (h : i < 256) : (tc k)[i]? = some (Value.int .u32 (if i < k then J (tab (UInt8.ofNat i)) else 0)) := by
  unfold tc
  rw [List.getElem?_toArray, List.getElem?_map, List.getElem?_range h]; rfl
theorem tc_set (k : Nat) (h : k < 256) : (tc k).setIfInBounds k (.int .u32 (J (tab (UInt8.ofNat k)))) = tc (k + 1) := by
  apply Array.ext_getElem?
  intro i
  rw [Array.getElem?_setIfInBounds]
  by_cases hi : i < 256
  · rw [tc_at _ _ hi, tc_at _ _ hi, tc_size]
    by_cases e : k = i
    · subst e
      rw [if_pos rfl, if_pos h, if_pos (Nat.lt_succ_self _)]
    · rw [if_neg e]
      congr 2
      by_cases l : i < k
      · rw [if_pos l, if_pos (by omega)]
      · rw [if_neg l, if_neg (by omega)]
  · rw [if_neg (by omega), Array.getElem?_eq_none (by rw [tc_size]; omega), Array.getElem?_eq_none (by rw [tc_size]; omega)]
theorem tc_zero : tc 0 = Array.replicate 256 (.int .u32 0) := by
  apply Array.ext_getElem?
  intro i
  rw [Array.getElem?_replicate]
  by_cases hi : i < 256
  · rw [tc_at _ _ hi, if_neg (by omega), if_pos hi]
  · rw [if_neg hi, Array.getElem?_eq_none (by rw [tc_size]; omega)]
theorem tc_one (k : Nat) : (tc k).all (·.oneCell') = true := by
  rw [Array.all_eq_true]
  intro i hi
  have h : i < 256 := by rw [tc_size] at hi; exact hi
  have := tc_at k i h
  rw [Array.getElem?_eq_getElem hi] at this
  rw [Option.some.inj this]; rfl
theorem tc_byte (b : UInt8) : (tc 256)[b.toNat]? = some (.int .u32 (J (tab b))) := by
  have h := b.toNat_lt
  rw [tc_at _ _ (by omega), if_pos (by omega), UInt8.ofNat_toNat]
theorem info_tab : (Try.prog.info? 26).map (fun i => (i.zero, i.size)) = some (some (.agg (Array.replicate 256 (.int .u32 0))), 256) := by kernel_rfl
theorem zero_tab (w : World) : (zeroValue 26).run Try.prog w = .ok (.agg (tc 0)) w := by rw [tc_zero]; exact (zero_of_info info_tab).1 w
theorem size_tab (k : Nat) : (Try.prog.info? 26).map (·.size) = some (tc k).size := by rw [tc_size]; exact (zero_of_info info_tab).2
/-- A whole row written. -/
theorem Two.row {w W : World} {g r : Nat} {cs ds : Array Value} (h : Two w g r cs ds W) (c : Array Value) : Two w g r cs c (W.setRow r c) := by
  obtain ⟨t, hr⟩ := h.br
  obtain ⟨t', hg⟩ := h.bg
  exact ⟨⟨t', by rw [setRow_other _ _ _ _ h.ne]; exact hg⟩, ⟨t, setRow_heap _ _ _ _ _ _ hr⟩, h.ne, h.hg, h.hr,
    ⟨h.bl.os, h.bl.tape, h.bl.output, by rw [setRow_size]; exact h.bl.size, fun k hk => (setRow_other _ _ _ _ (by have := h.hr; omega)).trans (h.bl.block k hk)⟩⟩
theorem table_any (w : World) : Calls Try.prog 13 #[] w fun e w' => e = .returned (.agg (tc 256)) ∧ Below w.heap.size w w' := by
  have Z := zero_tab
  go_enter Try.func13, Try.ntmps13
  go_wp2_with fail
  have M := (Two.new w (tc 0) (tc 0) 26 26).swap
  generalize (w.alloc (.cells (tc 0) 26)).alloc (.cells (tc 0) 26) = W0 at *
  obtain ⟨r, hr⟩ : ∃ r, r = w.heap.size := ⟨_, rfl⟩
  obtain ⟨g, hg⟩ : ∃ g, g = r + 1 := ⟨_, rfl⟩
  rw [← hr, ← hg] at M
  rw [← hr, ← hg]
  clear hg hr Z
  go_loopg [3] 256 (fun q s3 wr => ∃ k : Nat, k + q = 256 ∧ s3 = .int .i64 (k : Int) ∧ Two w g r (tc k) (tc 0) wr)
  case atStart => exact ⟨0, by omega, rfl, M⟩
  case round =>
    clear M
    obtain ⟨k, hq, rfl, M⟩ := hrel
    have HQ := Lib.hid hq
    by_cases lt : k < 256
    · have il : (k : Int) < 256 := by omega
      have il0 : (0 : Int) ≤ k := by omega
      have kb : (UInt8.ofNat k).toNat = k := by rw [UInt8.toNat_ofNat']; omega
      have K := Lib.hid (place_any (UInt8.ofNat k))
      rw [kb] at K
      clear kb
      have S := Lib.hid (tc_set k lt)
      have c := M.bg.cell (tc_at k k lt)
      have f := M.bg.melt k
      clear hq
      go_wp2_with fail
      refine (K.out _).mono ?_
      rintro e y ⟨rfl, rfl⟩
      go_wp2_with fail
      go_roundg (gk - 1)
      case measure => have := HQ.out; omega
      case rel =>
        go_light
        exact ⟨k + 1, by have := HQ.out; omega, by go_num, by rw [← S.out]; exact M.set k _⟩
    · obtain rfl : 256 = k := by omega
      clear hq lt
      obtain ⟨t1, G⟩ := M.bg
      obtain ⟨t2, R⟩ := M.br
      have hG := Lib.hid G
      have hR := Lib.hid R
      clear G R
      go_wp2_with (first
        | (refine wpList_load_row rfl 26 _ rfl g rfl t1 (tc 256) (0, 0) _ hG.out Try.underlying26 rfl (size_tab 256) ?_)
        | (refine wpList_store_row rfl 26 _ _ rfl r (tc 256) rfl rfl t2 (tc 0) hR.out (size_tab 256) (by rw [tc_size, tc_size]) (tc_one 256) ?_))
      replace M := M.row (tc 256)
      obtain ⟨t3, R⟩ := M.br
      exact bodyPost_ret (results_cell_row rfl _ _ r t3 (tc 256) (0, 0) _ rfl R Try.underlying26 rfl (size_tab 256)) rfl ⟨rfl, M.bl⟩
end Go.Proofs.Ytkghlijmlifmjaa
