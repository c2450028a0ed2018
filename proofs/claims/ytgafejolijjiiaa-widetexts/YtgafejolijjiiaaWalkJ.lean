/- The walk of the law's fixed answer. -/
import Derived.Test.YtgafejolijjiiaaWalkH
import Derived.Test.YtgafejolijjiiaaWalkI
namespace Go.Proofs.Ytgafejolijjiiaa
open Go.RowKit
set_option linter.unusedSimpArgs false
set_option linter.unusedVariables false

theorem U_at {h l n : Nat} (hl : l < 18446744073709551616) (hn : n = h * 18446744073709551616 + l) : U n = .agg #[.int .u64 (h : Int), .int .u64 (l : Int)] := by
  rw [hn]
  have := words_sum h l hl
  show Value.agg #[.int .u64 (hi _), .int .u64 (lo _)] = _
  rw [this.1, this.2]

theorem below_step {w W w1 : World} (h : Below w.heap.size w W) (hb : Below W.heap.size W w1) : Below w.heap.size w w1 := h.trans (hb.mono h.size)
theorem fits_of {n : Nat} (h : n < 340282366920938463463374607431768211456) : Fits n := by unfold Fits; exact h

theorem of_at (k : Nat) (hk : k < 18446744073709551616) (w : World) : Calls Try.prog 22 #[.int .u64 (k : Int)] w fun e w' => e = .returned (.agg #[.int .u64 0, .int .u64 (k : Int)]) ∧ Below w.heap.size w w' := by
  have h := of_bel (k : Int) (word_nat hk) w
  rw [Int.toNat_natCast, U_at (h := 0) (l := k) hk (by omega)] at h
  exact h
theorem aw_add (w : World) : Calls Try.prog 11 #[.agg #[.int .u64 0, .int .u64 18446744073709551615], .agg #[.int .u64 0, .int .u64 1]] w fun e w' => e = .returned (.tuple #[.agg #[.int .u64 1, .int .u64 0], .bool true]) ∧ Below w.heap.size w w' := by
  have f : Fits (18446744073709551615 + 1) := fits_of (by decide)
  have h := add_bel 18446744073709551615 1 (fits_of (by decide)) (fits_of (by decide)) w
  rw [cut_yes f, fitsB_yes f, U_at (n := 18446744073709551615) (h := 0) (l := 18446744073709551615) (by decide) (by decide), U_at (n := 1) (h := 0) (l := 1) (by decide) (by decide), U_at (n := 18446744073709551615 + 1) (h := 1) (l := 0) (by decide) (by decide)] at h
  exact h
theorem aw_div (w : World) : Calls Try.prog 19 #[.agg #[.int .u64 7, .int .u64 5], .agg #[.int .u64 2, .int .u64 0]] w fun e w' => e = .returned (.tuple #[.agg #[.int .u64 0, .int .u64 3], .agg #[.int .u64 1, .int .u64 5], .bool true]) ∧ Below w.heap.size w w' := by
  have h := div_any 129127208515966861317 36893488147419103232 (fits_of (by decide)) (fits_of (by decide)) (by decide) w
  rw [U_at (n := 129127208515966861317) (h := 7) (l := 5) (by decide) (by decide), U_at (n := 36893488147419103232) (h := 2) (l := 0) (by decide) (by decide), U_at (n := 129127208515966861317 / 36893488147419103232) (h := 0) (l := 3) (by decide) (by decide), U_at (n := 129127208515966861317 % 36893488147419103232) (h := 1) (l := 5) (by decide) (by decide)] at h
  exact h
theorem aw_num : readO [51, 52, 48, 50, 56, 50, 51, 54, 54, 57, 50, 48, 57, 51, 56, 52, 54, 51, 52, 54, 51, 51, 55, 52, 54, 48, 55, 52, 51, 49, 55, 54, 56, 50, 49, 49, 52, 53, 53] = some 340282366920938463463374607431768211455 := by decide +kernel
theorem aw_read (w : World) : Calls Try.prog 24 #[.string ⟨#[51, 52, 48, 50, 56, 50, 51, 54, 54, 57, 50, 48, 57, 51, 56, 52, 54, 51, 52, 54, 51, 51, 55, 52, 54, 48, 55, 52, 51, 49, 55, 54, 56, 50, 49, 49, 52, 53, 53]⟩] w fun e w' => e = .returned (.tuple #[.agg #[.int .u64 18446744073709551615, .int .u64 18446744073709551615], .bool true]) ∧ Below w.heap.size w w' := by
  have h := read_any ⟨#[51, 52, 48, 50, 56, 50, 51, 54, 54, 57, 50, 48, 57, 51, 56, 52, 54, 51, 52, 54, 51, 51, 55, 52, 54, 48, 55, 52, 51, 49, 55, 54, 56, 50, 49, 49, 52, 53, 53]⟩ (by decide) w
  obtain ⟨e1, e2⟩ := readN_some aw_num
  have e3 : (⟨#[51, 52, 48, 50, 56, 50, 51, 54, 54, 57, 50, 48, 57, 51, 56, 52, 54, 51, 52, 54, 51, 51, 55, 52, 54, 48, 55, 52, 51, 49, 55, 54, 56, 50, 49, 49, 52, 53, 53]⟩ : ByteArray).data.toList = [51, 52, 48, 50, 56, 50, 51, 54, 54, 57, 50, 48, 57, 51, 56, 52, 54, 51, 52, 54, 51, 51, 55, 52, 54, 48, 55, 52, 51, 49, 55, 54, 56, 50, 49, 49, 52, 53, 53] := rfl
  rw [e3, e1, e2, U_at (n := 340282366920938463463374607431768211455) (h := 18446744073709551615) (l := 18446744073709551615) (by decide) (by decide)] at h
  exact h
theorem aw_digits : text 18446744073709551616 = [49, 56, 52, 52, 54, 55, 52, 52, 48, 55, 51, 55, 48, 57, 53, 53, 49, 54, 49, 54] := by decide +kernel
theorem aw_text (w : World) : Calls Try.prog 26 #[.agg #[.int .u64 1, .int .u64 0]] w fun e w' => e = .returned (.string ⟨#[49, 56, 52, 52, 54, 55, 52, 52, 48, 55, 51, 55, 48, 57, 53, 53, 49, 54, 49, 54]⟩) ∧ Below w.heap.size w w' := by
  have h := text_any 18446744073709551616 (fits_of (by decide)) w
  rw [aw_digits, U_at (n := 18446744073709551616) (h := 1) (l := 0) (by decide) (by decide)] at h
  exact h
theorem aw_cmp (w : World) : Calls Try.prog 15 #[.agg #[.int .u64 1, .int .u64 0], .agg #[.int .u64 18446744073709551615, .int .u64 18446744073709551615]] w fun e w' => e = .returned (.int .i64 (-1)) ∧ Below w.heap.size w w' := by
  have h := cmp_bel 18446744073709551616 340282366920938463463374607431768211455 w
  have e : sgn 18446744073709551616 340282366920938463463374607431768211455 = -1 := by unfold sgn; decide
  rw [e, U_at (n := 18446744073709551616) (h := 1) (l := 0) (by decide) (by decide), U_at (n := 340282366920938463463374607431768211455) (h := 18446744073709551615) (l := 18446744073709551615) (by decide) (by decide)] at h
  exact h
theorem aw_full (w : World) : Calls Try.prog 21 #[.int .u64 3, .int .u64 4] w fun e w' => e = .returned (.agg #[.int .u64 0, .int .u64 12]) ∧ Below w.heap.size w w' := by
  have h := full_bel ((3 : Nat) : Int) ((4 : Nat) : Int) (word_nat (by decide)) (word_nat (by decide)) w
  rw [Int.toNat_natCast, Int.toNat_natCast, U_at (n := 3 * 4) (h := 0) (l := 12) (by decide) (by decide)] at h
  exact h

set_option maxHeartbeats 4000000 in
set_option maxRecDepth 100000 in
theorem awake_any (w : World) : Calls Try.prog 23 #[] w fun e w' => e = .returned (.bool true) ∧ Below w.heap.size w w' := by
  go_enter Try.func23, Try.ntmps23
  go_wp2_with fail
  refine (of_at 1 (by decide) _).mono ?_
  rintro e w1 ⟨rfl, hb1⟩
  go_wp2_with fail
  refine (aw_add _).mono ?_
  rintro e w2 ⟨rfl, hb2⟩
  go_upto_region 2 with fail
  have a0 : (w2.alloc (.cells #[.int .u64 1, .int .u64 0] 24)).cell? ⟨w2.heap.size, 0, none⟩ = some (.int .u64 1) := by simp [go_sem]
  have a1 : (w2.alloc (.cells #[.int .u64 1, .int .u64 0] 24)).cell? ⟨w2.heap.size, 1, none⟩ = some (.int .u64 0) := by simp [go_sem]
  have bA : Below w.heap.size w (w2.alloc (.cells #[.int .u64 1, .int .u64 0] 24)) := (hb1.trans (hb2.mono hb1.size)).alloc (Nat.le_trans hb1.size hb2.size) _
  have zA : w.heap.size ≤ (w2.alloc (.cells #[.int .u64 1, .int .u64 0] 24)).heap.size := bA.size
  generalize w2.alloc (.cells #[.int .u64 1, .int .u64 0] 24) = wA at *
  generalize w2.heap.size = A at *
  go_wp2_with fail
  refine (aw_div _).mono ?_
  rintro e w3 ⟨rfl, hb3⟩
  go_upto_region 3 with fail
  have c0 : ((w3.alloc (.cells #[.int .u64 0, .int .u64 3] 24)).alloc (.cells #[.int .u64 1, .int .u64 5] 24)).cell? ⟨A, 0, none⟩ = some (.int .u64 1) := keep_alloc (keep_alloc (keep_cell hb3 a0) _) _
  have c1 : ((w3.alloc (.cells #[.int .u64 0, .int .u64 3] 24)).alloc (.cells #[.int .u64 1, .int .u64 5] 24)).cell? ⟨A, 1, none⟩ = some (.int .u64 0) := keep_alloc (keep_alloc (keep_cell hb3 a1) _) _
  have c2 : ((w3.alloc (.cells #[.int .u64 0, .int .u64 3] 24)).alloc (.cells #[.int .u64 1, .int .u64 5] 24)).cell? ⟨w3.heap.size, 0, none⟩ = some (.int .u64 0) := by simp [go_sem, World.cell?_alloc_past]
  have c3 : ((w3.alloc (.cells #[.int .u64 0, .int .u64 3] 24)).alloc (.cells #[.int .u64 1, .int .u64 5] 24)).cell? ⟨w3.heap.size, 1, none⟩ = some (.int .u64 3) := by simp [go_sem, World.cell?_alloc_past]
  have c4 : ((w3.alloc (.cells #[.int .u64 0, .int .u64 3] 24)).alloc (.cells #[.int .u64 1, .int .u64 5] 24)).cell? ⟨w3.heap.size + 1, 0, none⟩ = some (.int .u64 1) := by simp [go_sem, World.cell?_alloc_past]
  have c5 : ((w3.alloc (.cells #[.int .u64 0, .int .u64 3] 24)).alloc (.cells #[.int .u64 1, .int .u64 5] 24)).cell? ⟨w3.heap.size + 1, 1, none⟩ = some (.int .u64 5) := by simp [go_sem, World.cell?_alloc_past]
  have bC : Below w.heap.size w ((w3.alloc (.cells #[.int .u64 0, .int .u64 3] 24)).alloc (.cells #[.int .u64 1, .int .u64 5] 24)) := ((bA.trans (hb3.mono zA)).alloc (Nat.le_trans zA hb3.size) _).alloc (by have := hb3.size; simp only [World.size_alloc]; omega) _
  have zC := bC.size
  generalize (w3.alloc (.cells #[.int .u64 0, .int .u64 3] 24)).alloc (.cells #[.int .u64 1, .int .u64 5] 24) = wC at *
  clear a0 a1 bA zA hb1 hb2 hb3
  generalize w3.heap.size = C at *
  go_wp2_with fail
  refine (aw_read _).mono ?_
  rintro e w4 ⟨rfl, hb4⟩
  go_upto_region 4 with fail
  have e0 : (w4.alloc (.cells #[.int .u64 18446744073709551615, .int .u64 18446744073709551615] 24)).cell? ⟨A, 0, none⟩ = some (.int .u64 1) := keep_alloc (keep_cell hb4 c0) _
  have e1 : (w4.alloc (.cells #[.int .u64 18446744073709551615, .int .u64 18446744073709551615] 24)).cell? ⟨A, 1, none⟩ = some (.int .u64 0) := keep_alloc (keep_cell hb4 c1) _
  have e2 : (w4.alloc (.cells #[.int .u64 18446744073709551615, .int .u64 18446744073709551615] 24)).cell? ⟨C, 0, none⟩ = some (.int .u64 0) := keep_alloc (keep_cell hb4 c2) _
  have e3 : (w4.alloc (.cells #[.int .u64 18446744073709551615, .int .u64 18446744073709551615] 24)).cell? ⟨C, 1, none⟩ = some (.int .u64 3) := keep_alloc (keep_cell hb4 c3) _
  have e4 : (w4.alloc (.cells #[.int .u64 18446744073709551615, .int .u64 18446744073709551615] 24)).cell? ⟨C + 1, 0, none⟩ = some (.int .u64 1) := keep_alloc (keep_cell hb4 c4) _
  have e5 : (w4.alloc (.cells #[.int .u64 18446744073709551615, .int .u64 18446744073709551615] 24)).cell? ⟨C + 1, 1, none⟩ = some (.int .u64 5) := keep_alloc (keep_cell hb4 c5) _
  have e6 : (w4.alloc (.cells #[.int .u64 18446744073709551615, .int .u64 18446744073709551615] 24)).cell? ⟨w4.heap.size, 0, none⟩ = some (.int .u64 18446744073709551615) := by simp [go_sem]
  have e7 : (w4.alloc (.cells #[.int .u64 18446744073709551615, .int .u64 18446744073709551615] 24)).cell? ⟨w4.heap.size, 1, none⟩ = some (.int .u64 18446744073709551615) := by simp [go_sem]
  have bE : Below w.heap.size w (w4.alloc (.cells #[.int .u64 18446744073709551615, .int .u64 18446744073709551615] 24)) := (bC.trans (hb4.mono zC)).alloc (Nat.le_trans zC hb4.size) _
  have zE := bE.size
  generalize w4.alloc (.cells #[.int .u64 18446744073709551615, .int .u64 18446744073709551615] 24) = wE at *
  clear c0 c1 c2 c3 c4 c5 bC zC hb4
  generalize w4.heap.size = E at *
  go_region_held3 (fun w' => w'.cell? ⟨A, 0, none⟩ = some (.int .u64 1) ∧ w'.cell? ⟨A, 1, none⟩ = some (.int .u64 0) ∧ w'.cell? ⟨C, 0, none⟩ = some (.int .u64 0) ∧ w'.cell? ⟨C, 1, none⟩ = some (.int .u64 3) ∧ w'.cell? ⟨C + 1, 0, none⟩ = some (.int .u64 1) ∧ w'.cell? ⟨C + 1, 1, none⟩ = some (.int .u64 5) ∧ w'.cell? ⟨E, 0, none⟩ = some (.int .u64 18446744073709551615) ∧ w'.cell? ⟨E, 1, none⟩ = some (.int .u64 18446744073709551615))
    ((refine ⟨?_, ?_, ?_, ?_, ?_, ?_, ?_, ?_⟩ <;> (repeat (first | with_reducible exact e0 | with_reducible exact e1 | with_reducible exact e2 | with_reducible exact e3 | with_reducible exact e4 | with_reducible exact e5 | with_reducible exact e6 | with_reducible exact e7 | with_reducible refine keep_drew ?_ | with_reducible refine keep_cell (by assumption) ?_))))
    (first
      | (go_at_call_of 22 (Value.int IntKind.u64 3); refine (of_at 3 (by decide) _).mono ?_; rintro e x1 ⟨rfl, hx1⟩)
      | (go_at_call_of 22 (Value.int IntKind.u64 12); refine (of_at 12 (by decide) _).mono ?_; rintro e x2 ⟨rfl, hx2⟩)
      | (go_at_call 26; refine (aw_text _).mono ?_; rintro e x3 ⟨rfl, hx3⟩)
      | (go_at_call 15; refine (aw_cmp _).mono ?_; rintro e x4 ⟨rfl, hx4⟩)
      | (go_at_call 21; refine (aw_full _).mono ?_; rintro e x5 ⟨rfl, hx5⟩))
  go_wp2_with fail
  go_ret
  exact ⟨rfl, below_step (below_step (below_step (below_step (below_step bE.drew hx1) hx3) hx4) hx5) hx2⟩
end Go.Proofs.Ytgafejolijjiiaa
