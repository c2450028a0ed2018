/- The walk of wide.Mul. -/
import Derived.Test.YtnacokogihanoaaDoorWWalkA
import Derived.Deep.RegionHeld3
import Derived.Deep.RegionWith
import Derived.Deep.DeepCutAuto
import Derived.Deep.DeepFit
import Derived.BigQuiet
import Derived.Deep.Light
namespace Go.Proofs.YtnacokogihanoaaDoor.Wd
open Go.RowKit
set_option linter.unusedSimpArgs false
set_option linter.unusedVariables false

/-- wide.Mul, both numbers from 2 to the 64 on. -/
theorem mul_both_walk (a b : Nat) (h : hi a ≠ 0) (k : hi b ≠ 0) (w : World) : Calls Tryd.prog 29 #[U a, U b] w fun e w' => e = .returned (.tuple #[U 0, .bool false]) ∧ Below w.heap.size w w' := by
  have h' : (hi a != 0) = true := by simpa using h
  have k' : (hi b != 0) = true := by simpa using k
  clear h k
  go_enter Tryd.func29, Tryd.ntmps29
  go_wp2
  exact bodyPost_ret (v := .tuple #[U 0, .bool false]) (by simp [results, Tryd.results29, go_sem, hi_zero, lo_zero]) rfl ⟨rfl, (((Below.refl _ _).alloc (Nat.le_refl _) _).alloc (by simp) _).alloc (by simp; omega) _⟩


def MulRel (a b : Nat) (w : World) (s6 s7 : Value) (wx : World) : Prop := ∃ g6 g7 : Nat, s6 = .pointer (some ⟨g6, 0, none⟩) ∧ s7 = .pointer (some ⟨g7, 0, none⟩) ∧
    wx.cell? ⟨g6, 0, none⟩ = some (.int .u64 (hi ((hi a).toNat * (lo b).toNat))) ∧ wx.cell? ⟨g6, 1, none⟩ = some (.int .u64 (lo ((hi a).toNat * (lo b).toNat))) ∧
    wx.cell? ⟨g7, 0, none⟩ = some (.int .u64 (hi ((lo a).toNat * (hi b).toNat))) ∧ wx.cell? ⟨g7, 1, none⟩ = some (.int .u64 (lo ((lo a).toNat * (hi b).toNat))) ∧
    w.heap.size + 3 ≤ wx.heap.size ∧ w.heap.size + 3 ≤ g6 ∧ w.heap.size + 3 ≤ g7 ∧
    Below (w.heap.size + 3) (((w.alloc (.cells #[.int .u64 (hi a), .int .u64 (lo a)] 26)).alloc (.cells #[.int .u64 (hi b), .int .u64 (lo b)] 26)).alloc (.cells #[.int .u64 0, .int .u64 0] 26)) wx

def MulEnd (a b : Nat) (w : World) (e : Ending) (w' : World) : Prop := e = .returned (.tuple #[U (cut (a * b)), .bool (fitsB (a * b))]) ∧ Below w.heap.size w w'

set_option maxHeartbeats 1000000 in
set_option maxRecDepth 100000 in
theorem mul_rest_walk (a b : Nat) (ha : Fits a) (hb : Fits b) (g : (hi a != 0) = false ∨ ((hi a != 0) = true ∧ (hi b != 0) = false)) (w : World) : Calls Tryd.prog 29 #[U a, U b] w (MulEnd a b w) := by
  have a0 := word_hi ha; have a1 := word_lo a; have b0 := word_hi hb; have b1 := word_lo b
  have hn : ¬ (hi a ≠ 0 ∧ hi b ≠ 0) := by
    rcases g with g | ⟨_, g⟩
    · have h1 : hi a = 0 := by simpa using g
      omega
    · have h1 : hi b = 0 := by simpa using g
      omega
  have HN := Lib.hid hn
  clear ha hb hn
  rcases g with h | ⟨h, h'⟩
  all_goals
    go_enter Tryd.func29, Tryd.ntmps29
    go_upto_region 3 with fail
    go_cut [6, 7] (fun s6 s7 wx => MulRel a b w s6 s7 wx)
    case first =>
      go_region_held3 (fun w' => w'.cell? ⟨w.heap.size, 0, none⟩ = some (.int .u64 (hi a)) ∧ w'.cell? ⟨w.heap.size, 1, none⟩ = some (.int .u64 (lo a)) ∧ w'.cell? ⟨w.heap.size + 1, 0, none⟩ = some (.int .u64 (hi b)) ∧ w'.cell? ⟨w.heap.size + 1, 1, none⟩ = some (.int .u64 (lo b))) (simp [go_sem, World.cell?_alloc_past])
        (first | (go_at_call 71; refine (full_any _ _ (by assumption) (by assumption) _).mono ?_; rintro e w' ⟨rfl, c1, rfl⟩))
      all_goals go_wp2_with fail
      all_goals go_meet
      all_goals go_light
      all_goals refine ⟨_, _, rfl, rfl, ?_, ?_, ?_, ?_, ?_, ?_, ?_, ?_⟩
      all_goals first
        | (simp [go_sem, World.cell?_alloc_past]; done)
        | omega
        | (simp only [World.size_alloc, World.size_drew]; omega)
        | (repeat (first | exact Below.refl _ _ | refine Below.drew ?_ | refine Below.alloc ?_ (by simp only [World.size_alloc, World.size_drew]; omega) _))
    case rest =>
      obtain ⟨g6, g7, rfl, rfl, c0, c1, c2, c3, hz, z6, z7, hB⟩ := hcut
      have d0 : wc.cell? ⟨w.heap.size, 1, none⟩ = some (.int .u64 (lo a)) := by rw [hB.cell (by simp <;> omega)]; simp [go_sem, World.cell?_alloc_past]
      have d1 : wc.cell? ⟨w.heap.size + 1, 1, none⟩ = some (.int .u64 (lo b)) := by rw [hB.cell (by simp <;> omega)]; simp [go_sem, World.cell?_alloc_past]
      have d2 : wc.cell? ⟨w.heap.size + 1 + 1, 0, none⟩ = some (.int .u64 0) := by rw [hB.cell (by simp <;> omega)]; simp [go_sem, World.cell?_alloc_past]
      have d3 : wc.cell? ⟨w.heap.size + 1 + 1, 1, none⟩ = some (.int .u64 0) := by rw [hB.cell (by simp <;> omega)]; simp [go_sem, World.cell?_alloc_past]
      have f2 : wc.frozen? ⟨w.heap.size + 1 + 1, 0, none⟩ = false := by rw [hB.frozen (by simp <;> omega)]; simp [go_sem]
      have f3 : wc.frozen? ⟨w.heap.size + 1 + 1, 1, none⟩ = false := by rw [hB.frozen (by simp <;> omega)]; simp [go_sem]
      have HB : Below w.heap.size w wc := ((((Below.refl _ _).alloc (Nat.le_refl _) _).alloc (by simp) _).alloc (by simp only [World.size_alloc]; omega) _).trans (hB.mono (by omega))
      clear hB
      by_cases L : hi ((hi a).toNat * (lo b).toNat) = 0
      · by_cases R : hi ((lo a).toNat * (hi b).toNat) = 0
        · have U1 := Lib.hid (hi_upper a b HN.out L R); have U2 := Lib.hid (lo_upper a b); have U3 := Lib.hid (fits_upper a b HN.out L R); have U4 := Lib.hid (mul_sum a b HN.out); have U5 := Lib.hid (fits_lows a b)
          have L' : (hi ((hi a).toNat * (lo b).toNat) != 0) = false := by simpa using L
          have R' : (hi ((lo a).toNat * (hi b).toNat) != 0) = false := by simpa using R
          clear L R
          go_wp2_with fail
          go_region_held3 (fun w' => w'.cell? ⟨w.heap.size, 1, none⟩ = some (.int .u64 (lo a)) ∧ w'.cell? ⟨w.heap.size + 1, 1, none⟩ = some (.int .u64 (lo b)) ∧ w'.cell? ⟨g6, 1, none⟩ = some (.int .u64 (lo ((hi a).toNat * (lo b).toNat))) ∧ w'.cell? ⟨g7, 1, none⟩ = some (.int .u64 (lo ((lo a).toNat * (hi b).toNat))))
            (first
              | exact ⟨d0, d1, c1, c3⟩
              | (obtain ⟨k0, k1, k2, k3⟩ := (by assumption : _ ∧ _ ∧ _ ∧ _); exact ⟨keep_cell (by assumption) k0, keep_cell (by assumption) k1, keep_cell (by assumption) k2, keep_cell (by assumption) k3⟩)
              | (obtain ⟨k0, k1, k2, k3⟩ := (by assumption : _ ∧ _ ∧ _ ∧ _); exact ⟨keep_set (keep_set k0 _ (by simp <;> omega)) _ (by simp <;> omega), keep_set (keep_set k1 _ (by simp <;> omega)) _ (by simp <;> omega), keep_set (keep_set k2 _ (by simp <;> omega)) _ (by simp <;> omega), keep_set (keep_set k3 _ (by simp <;> omega)) _ (by simp <;> omega)⟩))
            (first
              | (go_at_call 71; refine (full_bel _ _ (by assumption) (by assumption) _).mono ?_; rintro e w1 ⟨rfl, hb1⟩)
              | (go_at_call 27; refine (calls_at2 rfl (U_of (n := upper a b) ?_ U2.out.symm) (add_bel _ (upper a b) U5.out U3.out _)).mono ?_; (first | exact U1.out | (rw [IntKind.wrap_u64]; exact U1.out)); rw [U4.out]; rintro e w2 ⟨rfl, hb2⟩; have q0 := keep_cell hb2 (keep_cell hb1 d2); have q1 := keep_cell hb2 (keep_cell hb1 d3); have q2 := keep_melt hb2 (keep_cell hb1 d2) (keep_melt hb1 d2 f2); have q3 := keep_melt hb2 (keep_cell hb1 d3) (keep_melt hb1 d3 f3)))
          go_wp2
          go_light
          exact bodyPost_ret (v := .tuple #[U (cut (a * b)), .bool (fitsB (a * b))]) (by simp [results, Tryd.results29, go_sem, q0, q1]) rfl ⟨rfl, (((HB.drew.trans (hb1.mono (by simp only [World.size_drew]; omega))).trans (hb2.mono (by have := hb1.size; simp only [World.size_drew] at this; omega))).setCell (by simp <;> omega) _).setCell (by simp <;> omega) _⟩
        · have L' : (hi ((hi a).toNat * (lo b).toNat) != 0) = false := by simpa using L
          have R' : (hi ((lo a).toNat * (hi b).toNat) != 0) = true := by simpa using R
          have E1 := Lib.hid (cut_no (mul_right a b R)); have E2 := Lib.hid (fitsB_no (mul_right a b R))
          clear L R
          go_wp2
          go_light
          exact bodyPost_ret (v := .tuple #[U 0, .bool false]) (by simp [results, Tryd.results29, go_sem, hi_zero, lo_zero, d2, d3]) rfl ⟨by rw [E1.out, E2.out], (HB.setCell (by simp <;> omega) _).setCell (by simp <;> omega) _⟩
      · have L' : (hi ((hi a).toNat * (lo b).toNat) != 0) = true := by simpa using L
        have E1 := Lib.hid (cut_no (mul_left a b L)); have E2 := Lib.hid (fitsB_no (mul_left a b L))
        clear L
        go_wp2
        go_light
        exact bodyPost_ret (v := .tuple #[U 0, .bool false]) (by simp [results, Tryd.results29, go_sem, hi_zero, lo_zero, d2, d3]) rfl ⟨by rw [E1.out, E2.out], (HB.setCell (by simp <;> omega) _).setCell (by simp <;> omega) _⟩

/-- wide.Mul. -/
theorem mul_any (a b : Nat) (ha : Fits a) (hb : Fits b) (w : World) : Calls Tryd.prog 29 #[U a, U b] w fun e w' => e = .returned (.tuple #[U (cut (a * b)), .bool (fitsB (a * b))]) ∧ Below w.heap.size w w' := by
  by_cases h : hi a = 0
  · exact mul_rest_walk a b ha hb (Or.inl (by simpa using h)) w
  · by_cases k : hi b = 0
    · exact mul_rest_walk a b ha hb (Or.inr ⟨by simpa using h, by simpa using k⟩) w
    · rw [cut_no (mul_both a b h k), fitsB_no (mul_both a b h k)]
      exact mul_both_walk a b h k w
end Go.Proofs.YtnacokogihanoaaDoor.Wd
