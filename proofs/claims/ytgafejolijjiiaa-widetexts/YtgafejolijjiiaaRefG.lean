/- The walk of the document's answer: halfUp. -/
import Derived.Test.YtgafejolijjiiaaRefF
namespace Go.Proofs.Ytgafejolijjiiaa
open Go.RowKit
set_option linter.unusedSimpArgs false
set_option linter.unusedVariables false

set_option maxHeartbeats 1000000 in
set_option maxRecDepth 100000 in
theorem halfUp_plain (b : Nat) (hb : Fits b) (m : Int) (h : (lo b).tmod 2 = 0 ∨ (lo b).tmod 2 = 1 ∧ m = 1) (w : World) : Calls Try.prog 36 #[U b, .int .u64 m] w fun e w' => e = .returned (U (b / 2)) ∧ Below w.heap.size w w' := by
  have K := Lib.hid (refHalf_any b hb)
  clear hb
  go_enter Try.func36, Try.ntmps36
  go_wp2_with fail
  refine (K.out _).mono ?_
  rintro e w1 ⟨rfl, hb1⟩
  have T := (Two.start w b (.int .u64 0) (.int .u64 0)).next hb1
  clear hb1
  have t2 := T.a1; have t3 := T.r0; have t4 := T.r1; have t5 := T.m0; have t6 := T.m1; have tz := T.sz; have ty : w.heap.size < w1.heap.size := by omega
  rcases h with h | ⟨h, rfl⟩ 
  all_goals go_wp2_with fail
  all_goals go_light
  all_goals (refine bodyPost_ret (v := U (b / 2)) ?_ rfl ⟨rfl, ((T.bl.setCell (by simp only []; omega) _).setCell (by simp only []; omega) _).alloc (by simp only [World.size_setCell]; omega) _⟩; simp [results, Try.results36, go_sem, t3, t4, tz])
set_option maxHeartbeats 1000000 in
set_option maxRecDepth 100000 in
theorem halfUp_odd (b : Nat) (hb : Fits b) (h : (lo b).tmod 2 = 1) (w : World) : Calls Try.prog 36 #[U b, .int .u64 0] w fun e w' => e = .returned (U (b / 2 + 1)) ∧ Below w.heap.size w w' := by
  have K := Lib.hid (refHalf_any b hb)
  have F2 : Fits (b / 2) := by unfold Fits at *; omega
  have F3 : Fits (b / 2 + 1) := by unfold Fits at *; omega
  have F1 : Fits 1 := by unfold Fits; decide
  have A := Lib.hid (refAdd_any (b / 2) 1 F2 F1)
  rw [cut_yes F3, fitsB_yes F3] at A
  have O1 : hi 1 = 0 := by unfold hi; decide
  have O2 : lo 1 = 1 := by unfold lo; decide
  clear hb F1 F2 F3
  go_enter Try.func36, Try.ntmps36
  go_wp2_with fail
  refine (K.out _).mono ?_
  rintro e w1 ⟨rfl, hb1⟩
  have T := (Two.start w b (.int .u64 0) (.int .u64 0)).next hb1
  clear hb1
  have t2 := T.a1; have t3 := T.r0; have t4 := T.r1; have t5 := T.m0; have t6 := T.m1; have tz := T.sz; have ty : w.heap.size < w1.heap.size := by omega
  go_wp2_with fail
  rw [← O1, ← O2]
  refine (A.out _).mono ?_
  rintro e w2 ⟨rfl, hb2⟩
  have u0 : w2.cell? ⟨w1.heap.size, 0, none⟩ = some (.int .u64 (hi (b / 2))) := keep_cell hb2 (by simp [go_sem])
  have u1 : w2.cell? ⟨w1.heap.size, 1, none⟩ = some (.int .u64 (lo (b / 2))) := keep_cell hb2 (by simp [go_sem])
  have u2 : w2.frozen? ⟨w1.heap.size, 0, none⟩ = false := keep_melt hb2 (v := .int .u64 (hi (b / 2))) (by simp [go_sem]) (by simp [go_sem])
  have u3 : w2.frozen? ⟨w1.heap.size, 1, none⟩ = false := keep_melt hb2 (v := .int .u64 (lo (b / 2))) (by simp [go_sem]) (by simp [go_sem])
  have T2 := (T.alloc _).next hb2
  have uz : w.heap.size + 1 ≠ w1.heap.size := by omega
  clear hb2 t2 t3 t4 t5 t6 T
  have t2 := T2.a1; have t3 := T2.r0; have t4 := T2.r1; have t5 := T2.m0; have t6 := T2.m1; have tz2 := T2.sz
  go_wp2_with fail
  go_light
  exact bodyPost_ret (v := U (b / 2 + 1)) (by simp [results, Try.results36, go_sem, t3, t4, uz, uz.symm]) rfl ⟨rfl, (((T2.bl.setCell (by simp only []; omega) _).setCell (by simp only []; omega) _).setCell (by simp only []; omega) _).setCell (by simp only []; omega) _⟩
theorem halfUp_any (b : Nat) (hb : Fits b) (n : Nat) (hn : n ≤ 1) (w : World) : Calls Try.prog 36 #[U b, .int .u64 (n : Int)] w fun e w' => e = .returned (U ((b + 1 - n) / 2)) ∧ Below w.heap.size w w' := by
  have e : (lo b).tmod 2 = ((b % 2 : Nat) : Int) := by
    rw [(nat_words b).2, Int.tmod_eq_emod_of_nonneg (by omega)]; omega
  by_cases h0 : b % 2 = 0
  · have : (b + 1 - n) / 2 = b / 2 := by omega
    rw [this]; exact halfUp_plain b hb _ (Or.inl (by omega)) w
  · by_cases h1 : n = 1
    · subst h1
      have : (b + 1 - 1) / 2 = b / 2 := by omega
      rw [this]; exact halfUp_plain b hb _ (Or.inr ⟨by omega, rfl⟩) w
    · have : n = 0 := by omega
      subst this
      have : (b + 1 - 0) / 2 = b / 2 + 1 := by omega
      rw [this]; exact halfUp_odd b hb (by omega) w
end Go.Proofs.Ytgafejolijjiiaa
