/- The walk of the document's answer: Sub. -/
import Derived.Test.YtgafejolijjiiaaRefC
namespace Go.Proofs.Ytgafejolijjiiaa
open Go.RowKit
set_option linter.unusedSimpArgs false
set_option linter.unusedVariables false

set_option maxHeartbeats 4000000 in
set_option maxRecDepth 100000 in
theorem refSub_fits (a b : Nat) (ha : Fits a) (hb : Fits b) (le : b ≤ a) (w : World) : Calls Try.prog 14 #[U a, U b] w fun e w' => e = .returned (.tuple #[U (a - b), .bool true]) ∧ Below w.heap.size w w' := by
  have LE := Lib.hid le
  have sg : ¬ sgn a b < 0 := by have := sgn_ge le; omega
  have KC := Lib.hid (refCmp_any a b ha hb)
  clear le
  go_enter Try.func14, Try.ntmps14
  go_upto_region 1 with fail
  have S := Three.start w a b (.int .u64 0) (.int .u64 0)
  generalize ((w.alloc (.cells #[.int .u64 (hi a), .int .u64 (lo a)] 24)).alloc (.cells #[.int .u64 (hi b), .int .u64 (lo b)] 24)).alloc (.cells #[.int .u64 0, .int .u64 0] 24) = W at *
  have a0 := S.a0; have a1 := S.a1; have b0 := S.b0; have b1 := S.b1
  go_wp2_with fail
  refine (KC.out _).mono ?_
  rintro e wC ⟨rfl, hbC⟩
  have S := S.next hbC
  clear a0 a1 b0 b1
  have a0 := S.a0; have a1 := S.a1; have b0 := S.b0; have b1 := S.b1
  go_upto_region 3 with fail
  generalize wC = W at *
  go_cut [6, 7] (fun s6 s7 wx => Both W a b s6 s7 wx)
  case first =>
    go_region_held3 (fun w' => w'.cell? ⟨w.heap.size, 0, none⟩ = some (.int .u64 (hi a)) ∧ w'.cell? ⟨w.heap.size, 1, none⟩ = some (.int .u64 (lo a)) ∧ w'.cell? ⟨w.heap.size + 1, 0, none⟩ = some (.int .u64 (hi b)) ∧ w'.cell? ⟨w.heap.size + 1, 1, none⟩ = some (.int .u64 (lo b)))
      ((refine ⟨?_, ?_, ?_, ?_⟩ <;> (repeat (first | with_reducible exact a0 | with_reducible exact a1 | with_reducible exact b0 | with_reducible exact b1 | with_reducible refine keep_alloc ?_ _ | with_reducible refine keep_drew ?_))))
      (first
        | (go_at_call 29; refine (digits_any _ (by assumption) _).mono ?_; rintro e w1 ⟨rfl, c1, c2, c3, rfl⟩))
    all_goals go_wp2_with fail
    all_goals go_meet
    all_goals go_light
    all_goals refine ⟨_, _, rfl, rfl, ?_, ?_, ?_, ?_, ?_, ?_⟩
    all_goals first
      | omega
      | (repeat (first
        | (with_reducible refine Blk.new _ ?_; (· ((try simp only [World.size_alloc, World.size_drew]); done)))
        | with_reducible refine Blk.old ?_ _ | with_reducible refine Blk.drew ?_
        | exact Below.refl _ _ | with_reducible refine Below.drew ?_ | (with_reducible refine Below.alloc ?_ ?_ _; rotate_left; (· ((try simp only [World.size_alloc, World.size_drew]); omega)))))
  case rest =>
    obtain ⟨gX, gY, rfl, rfl, BX, BY, gne, gx, gy, bl⟩ := hcut
    have T0 : Rows8 w (w.heap.size + 1 + 1) gX gY (mix (a - b) a 0) (dg b) wc := by
      have S' := S.next bl
      have sz := S.sz
      exact ⟨fun j hj => by rw [mix_zero]; exact BX.cell j hj, fun j _ => BX.melt j, fun j hj => BY.cell j hj, S'.r0, S'.r1, S'.m0, S'.m1, gne, by omega, by omega, S'.bl⟩
    clear bl gx gy gne b0 b1 a0 a1 S BX BY
    go_wp2_with fail
    go_loopg [8, 9, 10] 8 (fun g s8 s9 _ wr => ∃ k : Nat, k + g = 8 ∧ s9 = .int .i64 (k : Int) ∧ s8 = .int .u64 (owed a b k : Int) ∧ Rows8 w (w.heap.size + 1 + 1) gX gY (mix (a - b) a k) (dg b) wr)
    case atStart => exact ⟨0, rfl, rfl, by rw [owed_zero]; rfl, T0⟩
    case round =>
      clear T0
      obtain ⟨k, hg, rfl, rfl, T⟩ := hrel
      by_cases lt : k < 8
      · have x0 := T.xc k lt; have y0 := T.yc k lt; have xf := T.xf k lt
        rw [mix_at] at x0
        have k8 : (k : Int) < 8 := by omega
        have s1 := diff_step a b k LE.out
        have c1 := owed_le a b k
        have c2 := owed_le a b (k + 1)
        have E1 : Hid (IntKind.u64.wrap (IntKind.u64.wrap (IntKind.u64.wrap (65536 + dg a k) - dg b k) - (owed a b k : Int)) = dg (a - b) k + 65536 * (1 - (owed a b (k + 1) : Int))) := by
          unfold Hid
          have h1 := dgN_lt a k; have h2 := dgN_lt b k; have h3 := dgN_lt (a - b) k
          rw [dg_nat, dg_nat, dg_nat, IntKind.wrap_u64, IntKind.wrap_u64, IntKind.wrap_u64]
          omega
        have E2 : Hid ((IntKind.u64.wrap (IntKind.u64.wrap (IntKind.u64.wrap (65536 + dg a k) - dg b k) - (owed a b k : Int))).tmod 65536 = dg (a - b) k) := by
          unfold Hid; rw [E1.out]; have h1 := dgN_lt (a - b) k; rw [dg_nat, Int.tmod_eq_emod_of_nonneg (by omega)]; omega
        have E3 : Hid (IntKind.u64.wrap (1 - IntKind.u64.wrap ((IntKind.u64.wrap (IntKind.u64.wrap (IntKind.u64.wrap (65536 + dg a k) - dg b k) - (owed a b k : Int))).tdiv 65536)) = (owed a b (k + 1) : Int)) := by
          unfold Hid; rw [E1.out]; have h1 := dgN_lt (a - b) k; rw [dg_nat, Int.tdiv_eq_ediv_of_nonneg (by omega), IntKind.wrap_u64, IntKind.wrap_u64]; omega
        have HG := Lib.hid hg
        clear s1 c1 c2 hg
        go_wp2_with fail
        go_quiet (fail)
        go_wp2_with fail
        go_roundg (gk - 1)
        case measure => have := HG.out; omega
        case rel =>
          go_light
          refine ⟨k + 1, by have := HG.out; omega, by go_num, by rw [E3.out], ?_⟩
          rw [E2.out]
          exact ((T.drewN nq).put k lt _).congr (fun j _ => mix_succ (a - b) a k j)
      · have e8 : k = 8 := by omega
        subst e8
        have k8 : ¬ ((8 : Nat) : Int) < 8 := by decide
        clear hg lt
        have r0 := T.r0; have r1 := T.r1; have f0 := T.f0; have f1 := T.f1
        have x0 := T.xc 0 (by decide); have x1 := T.xc 1 (by decide); have x2 := T.xc 2 (by decide); have x3 := T.xc 3 (by decide); have x4 := T.xc 4 (by decide); have x5 := T.xc 5 (by decide); have x6 := T.xc 6 (by decide); have x7 := T.xc 7 (by decide)
        rw [mix_end _ _ _ (by decide)] at x0 x1 x2 x3 x4 x5 x6 x7
        have f : Fits (a - b) := fits_sub ha b
        have K := Lib.hid (number_any (dg (a - b)) (fun j _ => ⟨dg_nonneg _ j, dg_lt _ j⟩))
        rw [num_dg _ f] at K
        clear f
        go_wp2_with fail
        refine (K.out _).mono ?_
        rintro e w5 ⟨rfl, hb5⟩
        have T5 := T.next hb5
        clear r0 r1 f0 f1 x0 x1 x2 x3 x4 x5 x6 x7
        have r0 := T5.r0; have r1 := T5.r1; have f0 := T5.f0; have f1 := T5.f1
        go_wp2_with fail
        go_light
        exact bodyPost_ret (v := .tuple #[U (a - b), .bool true]) (by simp [results, Try.results14, go_sem, r0, r1]) rfl ⟨rfl, (T5.bl.setCell (by simp only []; omega) _).setCell (by simp only []; omega) _⟩

set_option maxHeartbeats 4000000 in
set_option maxRecDepth 100000 in
theorem refSub_under (a b : Nat) (ha : Fits a) (hb : Fits b) (le : ¬ b ≤ a) (w : World) : Calls Try.prog 14 #[U a, U b] w fun e w' => e = .returned (.tuple #[U 0, .bool false]) ∧ Below w.heap.size w w' := by
  have sg : sgn a b < 0 := by have := sgn_lt le; omega
  have KC := Lib.hid (refCmp_any a b ha hb)
  clear le
  go_enter Try.func14, Try.ntmps14
  go_upto_region 1 with fail
  have S := Three.start w a b (.int .u64 0) (.int .u64 0)
  generalize ((w.alloc (.cells #[.int .u64 (hi a), .int .u64 (lo a)] 24)).alloc (.cells #[.int .u64 (hi b), .int .u64 (lo b)] 24)).alloc (.cells #[.int .u64 0, .int .u64 0] 24) = W at *
  have a0 := S.a0; have a1 := S.a1; have b0 := S.b0; have b1 := S.b1
  go_wp2_with fail
  refine (KC.out _).mono ?_
  rintro e wC ⟨rfl, hbC⟩
  have S := S.next hbC
  have r0 := S.r0; have r1 := S.r1; have f0 := S.m0; have f1 := S.m1
  go_wp2_with fail
  go_light
  exact bodyPost_ret (v := .tuple #[U 0, .bool false]) (by simp [results, Try.results14, go_sem, hi_zero, lo_zero, r0, r1]) rfl ⟨rfl, (S.bl.setCell (by simp only []; omega) _).setCell (by simp only []; omega) _⟩
end Go.Proofs.Ytgafejolijjiiaa
