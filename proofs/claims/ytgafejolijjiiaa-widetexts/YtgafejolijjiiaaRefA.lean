/- The walks of the document's answers: Digits, Number. -/
import Derived.Test.YtgafejolijjiiaaBase
import Derived.Test.YtgafejolijjiiaaMathR
import Derived.Handy
namespace Go.Proofs.Ytgafejolijjiiaa
open Go.RowKit
set_option linter.unusedSimpArgs false
set_option linter.unusedVariables false

/-- Eight digits as a value. -/
abbrev V (d : Nat → Int) : Value := .agg #[.int .u64 (d 0), .int .u64 (d 1), .int .u64 (d 2), .int .u64 (d 3), .int .u64 (d 4), .int .u64 (d 5), .int .u64 (d 6), .int .u64 (d 7)]

set_option maxHeartbeats 4000000 in
set_option maxRecDepth 100000 in
theorem digits_any (n : Nat) (hn : Fits n) (w : World) : Calls Try.prog 29 #[U n] w fun e w' => e = .returned (V (dg n)) ∧ ∃ c1 c2 c3, w' = ((w.alloc (.cells c1 24)).alloc (.cells c2 42)).alloc (.cells c3 42) := by
  have l0 := lo_nonneg n; have h0 := hi_nonneg n
  obtain ⟨d0, d1, d2, d3⟩ := dg_lo n
  obtain ⟨d4, d5, d6, d7⟩ := dg_hi n hn
  have D0 := Lib.hid d0; have D1 := Lib.hid d1; have D2 := Lib.hid d2; have D3 := Lib.hid d3
  have D4 := Lib.hid d4; have D5 := Lib.hid d5; have D6 := Lib.hid d6; have D7 := Lib.hid d7
  clear d0 d1 d2 d3 d4 d5 d6 d7 hn
  go_enter Try.func29, Try.ntmps29
  go_wp2_with fail
  go_rounds 5
  rw [D0.out, D1.out, D2.out, D3.out, D4.out, D5.out, D6.out, D7.out]
  exact bodyPost_ret (v := V (dg n)) (by simp [results, Try.results29, go_sem]) rfl ⟨rfl, _, _, _, rfl⟩

set_option maxHeartbeats 4000000 in
set_option maxRecDepth 100000 in
theorem number_any (d : Nat → Int) (h : ∀ j, j < 8 → 0 ≤ d j ∧ d j < 65536) (w : World) : Calls Try.prog 30 #[V d] w fun e w' => e = .returned (U (num d)) ∧ Below w.heap.size w w' := by
  obtain ⟨_, hl, hh⟩ := num_words d h
  obtain ⟨a0, b0⟩ := h 0 (by decide); obtain ⟨a1, b1⟩ := h 1 (by decide); obtain ⟨a2, b2⟩ := h 2 (by decide); obtain ⟨a3, b3⟩ := h 3 (by decide)
  obtain ⟨a4, b4⟩ := h 4 (by decide); obtain ⟨a5, b5⟩ := h 5 (by decide); obtain ⟨a6, b6⟩ := h 6 (by decide); obtain ⟨a7, b7⟩ := h 7 (by decide)
  have HL := Lib.hid hl; have HH := Lib.hid hh
  clear hl hh h
  go_enter Try.func30, Try.ntmps30
  go_wp2_with fail
  refine wp_loop_rounds 5 ?_
  rw [rounds_succ]; go_wp2; go_region; go_wp2; go_region; go_wp2
  rw [rounds_succ]; go_wp2; go_region; go_wp2; go_region; go_wp2
  rw [rounds_succ]; go_wp2; go_region; go_wp2; go_region; go_wp2
  rw [rounds_succ]; go_wp2; go_region; go_wp2; go_region; go_wp2
  rw [rounds_succ]; go_wp2
  rw [← HL.out, ← HH.out]
  exact bodyPost_ret (v := U (num d)) (by simp [results, Try.results30, go_sem]) rfl ⟨rfl, by
    repeat (first | exact Below.refl _ _ | with_reducible refine Below.drew ?_ | (with_reducible refine Below.alloc ?_ ?_ _; rotate_left; (· ((try simp only [World.size_alloc]); omega))))⟩

/-- A block that holds eight digits. -/
def Blk (wx : World) (g : Nat) (d : Nat → Int) : Prop := wx.heap[g]? = some (.cells #[.int .u64 (d 0), .int .u64 (d 1), .int .u64 (d 2), .int .u64 (d 3), .int .u64 (d 4), .int .u64 (d 5), .int .u64 (d 6), .int .u64 (d 7)] 42)
theorem Blk.lt {wx : World} {g : Nat} {d : Nat → Int} (h : Blk wx g d) : g < wx.heap.size := by
  unfold Blk at h
  exact (Array.getElem?_eq_some_iff.1 h).1
theorem Blk.new {w : World} {g : Nat} (d : Nat → Int) (hg : g = w.heap.size) : Blk (w.alloc (.cells #[.int .u64 (d 0), .int .u64 (d 1), .int .u64 (d 2), .int .u64 (d 3), .int .u64 (d 4), .int .u64 (d 5), .int .u64 (d 6), .int .u64 (d 7)] 42)) g d := by
  subst hg
  show (w.heap.push _)[w.heap.size]? = _
  simp
theorem Blk.old {w : World} {g : Nat} {d : Nat → Int} (h : Blk w g d) (o : Obj) : Blk (w.alloc o) g d := (Below.heap_alloc w o g h.lt).trans h
theorem Blk.drew {w : World} {g : Nat} {d : Nat → Int} (h : Blk w g d) : Blk w.drew g d := h
theorem Blk.cell {w : World} {g : Nat} {d : Nat → Int} (h : Blk w g d) (j : Nat) (hj : j < 8) : w.cell? ⟨g, j, none⟩ = some (.int .u64 (d j)) := by
  unfold Blk at h
  rcases (by omega : j = 0 ∨ j = 1 ∨ j = 2 ∨ j = 3 ∨ j = 4 ∨ j = 5 ∨ j = 6 ∨ j = 7) with rfl | rfl | rfl | rfl | rfl | rfl | rfl | rfl <;> simp [World.cell?, h]
theorem Blk.melt {w : World} {g : Nat} {d : Nat → Int} (h : Blk w g d) (j : Nat) : w.frozen? ⟨g, j, none⟩ = false := by
  unfold Blk at h
  simp [World.frozen?, h]
/-- What two numbers' digits are, each in a block of its own. -/
def Both (W : World) (a b : Nat) (s6 s7 : Value) (wx : World) : Prop := ∃ gX gY, s6 = .pointer (some ⟨gX, 0, none⟩) ∧ s7 = .pointer (some ⟨gY, 0, none⟩) ∧ Blk wx gX (dg a) ∧ Blk wx gY (dg b) ∧ gX ≠ gY ∧ W.heap.size ≤ gX ∧ W.heap.size ≤ gY ∧ Below W.heap.size W wx
end Go.Proofs.Ytgafejolijjiiaa
