/- The walk of wide.Div. -/
import Derived.Test.YtgafejolijjiiaaWalkE
namespace Go.Proofs.Ytgafejolijjiiaa
open Go.RowKit
set_option linter.unusedSimpArgs false
set_option linter.unusedVariables false

/-- Two blocks of the call's own that may be written: the third one and the fourth one. -/
structure Pair (w : World) (x0 x1 y0 y1 : Value) (wx : World) : Prop where
  x0 : wx.cell? ⟨w.heap.size + 1 + 1, 0, none⟩ = some x0
  x1 : wx.cell? ⟨w.heap.size + 1 + 1, 1, none⟩ = some x1
  y0 : wx.cell? ⟨w.heap.size + 1 + 1 + 1, 0, none⟩ = some y0
  y1 : wx.cell? ⟨w.heap.size + 1 + 1 + 1, 1, none⟩ = some y1
  f0 : wx.frozen? ⟨w.heap.size + 1 + 1, 0, none⟩ = false
  f1 : wx.frozen? ⟨w.heap.size + 1 + 1, 1, none⟩ = false
  g0 : wx.frozen? ⟨w.heap.size + 1 + 1 + 1, 0, none⟩ = false
  g1 : wx.frozen? ⟨w.heap.size + 1 + 1 + 1, 1, none⟩ = false
  sz : w.heap.size + 1 + 1 + 1 < wx.heap.size
  bl : Below w.heap.size w wx
theorem Pair.next {w : World} {x0 x1 y0 y1 : Value} {W w1 : World} (t : Pair w x0 x1 y0 y1 W) (hb : Below W.heap.size W w1) : Pair w x0 x1 y0 y1 w1 :=
  ⟨keep_cell hb t.x0, keep_cell hb t.x1, keep_cell hb t.y0, keep_cell hb t.y1, keep_melt hb t.x0 t.f0, keep_melt hb t.x1 t.f1, keep_melt hb t.y0 t.g0, keep_melt hb t.y1 t.g1, Nat.lt_of_lt_of_le t.sz hb.size, t.bl.trans (hb.mono (by have := t.sz; omega))⟩
theorem Pair.start (w : World) (a b : Nat) (x0 x1 y0 y1 : Value) : Pair w x0 x1 y0 y1 ((((w.alloc (.cells #[.int .u64 (hi a), .int .u64 (lo a)] 24)).alloc (.cells #[.int .u64 (hi b), .int .u64 (lo b)] 24)).alloc (.cells #[x0, x1] 24)).alloc (.cells #[y0, y1] 24)) := by
  refine ⟨?_, ?_, ?_, ?_, ?_, ?_, ?_, ?_, ?_, (three_bel _ _ _ _).alloc (by simp only [World.size_alloc]; omega) _⟩ <;> simp [go_sem, World.cell?_alloc_past]
theorem Pair.alloc {w : World} {x0 x1 y0 y1 : Value} {W : World} (t : Pair w x0 x1 y0 y1 W) (o : Obj) : Pair w x0 x1 y0 y1 (W.alloc o) := t.next ((Below.refl _ _).alloc (Nat.le_refl _) o)
theorem Pair.drew {w : World} {x0 x1 y0 y1 : Value} {W : World} (t : Pair w x0 x1 y0 y1 W) : Pair w x0 x1 y0 y1 W.drew := ⟨t.x0, t.x1, t.y0, t.y1, t.f0, t.f1, t.g0, t.g1, t.sz, t.bl.drew⟩

set_option maxHeartbeats 1000000 in
set_option maxRecDepth 100000 in
theorem div_zero (a : Nat) (w : World) : Calls Try.prog 19 #[U a, U 0] w fun e w' => e = .returned (.tuple #[U 0, U 0, .bool false]) ∧ Below w.heap.size w w' := by
  have z0 := hi_zero; have z1 := lo_zero
  go_enter Try.func19, Try.ntmps19
  go_wp2_with fail
  exact bodyPost_ret (v := .tuple #[U 0, U 0, .bool false]) (by simp [results, Try.results19, go_sem, z0, z1]) rfl ⟨rfl, by
    repeat (first | exact Below.refl _ _ | refine Below.alloc ?_ (by (try simp only [World.size_alloc]); omega) _)⟩

set_option maxHeartbeats 1000000 in
set_option maxRecDepth 100000 in
theorem div_short (a b : Nat) (ha : Fits a) (h0 : hi b = 0) (hb : b ≠ 0) (w : World) : Calls Try.prog 19 #[U a, U b] w fun e w' => e = .returned (.tuple #[U (a / b), U (a % b), .bool true]) ∧ Below w.heap.size w w' := by
  have bl : b < 18446744073709551616 := by unfold hi at h0; omega
  have e1 : lo b = (b : Int) := lo_small bl
  have e2 : (lo b == 0) = false := by rw [e1]; simpa using hb
  have K0 := Lib.hid (divShort_nat a b ha (by omega) bl)
  rw [← e1] at K0
  have E1 := Lib.hid e1; have H0 := Lib.hid h0; have BL := Lib.hid bl
  have h1 : (hi b == 0) = true := by simpa using h0
  clear e1 h0 bl ha
  go_enter Try.func19, Try.ntmps19
  go_wp2_with fail
  refine (K0.out _).mono ?_
  rintro e w1 ⟨rfl, hb1⟩
  have T1 := ((Pair.start w a b (.int .u64 0) (.int .u64 0) (.int .u64 0) (.int .u64 0)).next hb1).alloc (.cells #[.int .u64 (hi (a / b)), .int .u64 (lo (a / b))] 24)
  have z1 := ((Pair.start w a b (.int .u64 0) (.int .u64 0) (.int .u64 0) (.int .u64 0)).next hb1).sz
  have W1 := word_lo (a % b)
  have E2 : Hid ((lo (a % b)).toNat = a % b) := by unfold Hid; rw [toNat_lo]; exact Nat.mod_eq_of_lt (by have := BL.out; have := Nat.mod_lt a (show 0 < b by omega); omega)
  go_wp2_with fail
  have q0 : (w1.alloc (.cells #[.int .u64 (hi (a / b)), .int .u64 (lo (a / b))] 24)).cell? ⟨w1.heap.size, 0, none⟩ = some (.int .u64 (hi (a / b))) := by simp [go_sem]
  have q1 : (w1.alloc (.cells #[.int .u64 (hi (a / b)), .int .u64 (lo (a / b))] 24)).cell? ⟨w1.heap.size, 1, none⟩ = some (.int .u64 (lo (a / b))) := by simp [go_sem]
  generalize w1.alloc (.cells #[.int .u64 (hi (a / b)), .int .u64 (lo (a / b))] 24) = W at *
  go_region_held3 (fun w' => w'.cell? ⟨w1.heap.size, 0, none⟩ = some (.int .u64 (hi (a / b))) ∧ w'.cell? ⟨w1.heap.size, 1, none⟩ = some (.int .u64 (lo (a / b))))
    ((refine ⟨?_, ?_⟩ <;> (repeat (first | with_reducible exact q0 | with_reducible exact q1 | with_reducible refine keep_alloc ?_ _ | with_reducible refine keep_drew ?_ | with_reducible refine keep_set ?_ _ (by simp <;> omega) | with_reducible refine keep_cell (by assumption) ?_))))
    (first
      | (go_at_call 22; refine (of_bel _ W1 _).mono ?_; rw [E2.out]; rintro e w2 ⟨rfl, hb2⟩; have T2 := T1.drew.next hb2; have t1 := T2.x0; have t2 := T2.x1; have t3 := T2.y0; have t4 := T2.y1; have t5 := T2.f0; have t6 := T2.f1; have t7 := T2.g0; have t8 := T2.g1))
  go_wp2_with fail
  go_light
  exact bodyPost_ret (v := .tuple #[U (a / b), U (a % b), .bool true]) (by simp [results, Try.results19, go_sem, t1, t2, t3, t4]) rfl ⟨rfl, (((T2.bl.setCell (by simp only []; omega) _).setCell (by simp only []; omega) _).setCell (by simp only []; omega) _).setCell (by simp only []; omega) _⟩

set_option maxHeartbeats 1000000 in
set_option maxRecDepth 100000 in
theorem div_long (a b : Nat) (ha : Fits a) (hb : Fits b) (h0 : hi b ≠ 0) (w : World) : Calls Try.prog 19 #[U a, U b] w fun e w' => e = .returned (.tuple #[U (a / b), U (a % b), .bool true]) ∧ Below w.heap.size w w' := by
  have K0 := Lib.hid (divLong_any a b ha hb h0)
  have h1 : (hi b == 0) = false := by simpa using h0
  have QL : a / b < 18446744073709551616 := (Nat.div_lt_iff_lt_mul (by have := hi_ne h0; omega)).2 (by unfold Fits at ha; have := Nat.mul_le_mul_left 18446744073709551616 (hi_ne h0); omega)
  have W1 := word_lo (a / b)
  have E2 : Hid ((lo (a / b)).toNat = a / b) := by unfold Hid; rw [toNat_lo]; exact Nat.mod_eq_of_lt QL
  clear h0 ha hb QL
  go_enter Try.func19, Try.ntmps19
  go_wp2_with fail
  refine (K0.out _).mono ?_
  rintro e w1 ⟨rfl, hb1⟩
  have T1 := ((Pair.start w a b (.int .u64 0) (.int .u64 0) (.int .u64 0) (.int .u64 0)).next hb1).alloc (.cells #[.int .u64 (hi (a % b)), .int .u64 (lo (a % b))] 24)
  have z1 := ((Pair.start w a b (.int .u64 0) (.int .u64 0) (.int .u64 0) (.int .u64 0)).next hb1).sz
  go_wp2_with fail
  have q0 : (w1.alloc (.cells #[.int .u64 (hi (a % b)), .int .u64 (lo (a % b))] 24)).cell? ⟨w1.heap.size, 0, none⟩ = some (.int .u64 (hi (a % b))) := by simp [go_sem]
  have q1 : (w1.alloc (.cells #[.int .u64 (hi (a % b)), .int .u64 (lo (a % b))] 24)).cell? ⟨w1.heap.size, 1, none⟩ = some (.int .u64 (lo (a % b))) := by simp [go_sem]
  generalize w1.alloc (.cells #[.int .u64 (hi (a % b)), .int .u64 (lo (a % b))] 24) = W at *
  go_region_held3 (fun w' => w'.cell? ⟨w1.heap.size, 0, none⟩ = some (.int .u64 (hi (a % b))) ∧ w'.cell? ⟨w1.heap.size, 1, none⟩ = some (.int .u64 (lo (a % b))))
    ((refine ⟨?_, ?_⟩ <;> (repeat (first | with_reducible exact q0 | with_reducible exact q1 | with_reducible refine keep_alloc ?_ _ | with_reducible refine keep_drew ?_ | with_reducible refine keep_set ?_ _ (by simp <;> omega) | with_reducible refine keep_cell (by assumption) ?_))))
    (first
      | (go_at_call 22; refine (of_bel _ W1 _).mono ?_; rw [E2.out]; rintro e w2 ⟨rfl, hb2⟩; have T2 := T1.drew.next hb2; have t1 := T2.x0; have t2 := T2.x1; have t3 := T2.y0; have t4 := T2.y1; have t5 := T2.f0; have t6 := T2.f1; have t7 := T2.g0; have t8 := T2.g1))
  go_wp2_with fail
  go_light
  exact bodyPost_ret (v := .tuple #[U (a / b), U (a % b), .bool true]) (by simp [results, Try.results19, go_sem, t1, t2, t3, t4]) rfl ⟨rfl, (((T2.bl.setCell (by simp only []; omega) _).setCell (by simp only []; omega) _).setCell (by simp only []; omega) _).setCell (by simp only []; omega) _⟩

/-- wide.Div. -/
theorem div_any (a b : Nat) (ha : Fits a) (hb : Fits b) (h : b ≠ 0) (w : World) : Calls Try.prog 19 #[U a, U b] w fun e w' => e = .returned (.tuple #[U (a / b), U (a % b), .bool true]) ∧ Below w.heap.size w w' := by
  by_cases k : hi b = 0
  · exact div_short a b ha k h w
  · exact div_long a b ha hb k w
end Go.Proofs.Ytgafejolijjiiaa
