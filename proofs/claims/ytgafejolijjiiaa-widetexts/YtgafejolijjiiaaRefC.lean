/- The walks of the document's answers: Add, Sub. -/
import Derived.Test.YtgafejolijjiiaaRefB
namespace Go.Proofs.Ytgafejolijjiiaa
open Go.RowKit
set_option linter.unusedSimpArgs false
set_option linter.unusedVariables false

/-- Two rows of eight digits, the first of which may be written, and the result's block. -/
structure Rows8 (w : World) (R gX gY : Nat) (x y : Nat → Int) (wx : World) : Prop where
  xc : ∀ j, j < 8 → wx.cell? ⟨gX, j, none⟩ = some (.int .u64 (x j))
  xf : ∀ j, j < 8 → wx.frozen? ⟨gX, j, none⟩ = false
  yc : ∀ j, j < 8 → wx.cell? ⟨gY, j, none⟩ = some (.int .u64 (y j))
  r0 : wx.cell? ⟨R, 0, none⟩ = some (.int .u64 0)
  r1 : wx.cell? ⟨R, 1, none⟩ = some (.int .u64 0)
  f0 : wx.frozen? ⟨R, 0, none⟩ = false
  f1 : wx.frozen? ⟨R, 1, none⟩ = false
  ne : gX ≠ gY
  nr : gX ≠ R
  ge : w.heap.size ≤ gX
  bl : Below w.heap.size w wx
theorem Rows8.drewN {w : World} {R gX gY : Nat} {x y : Nat → Int} {W : World} (t : Rows8 w R gX gY x y W) (n : Nat) : Rows8 w R gX gY x y (W.drewN n) := ⟨t.xc, t.xf, t.yc, t.r0, t.r1, t.f0, t.f1, t.ne, t.nr, t.ge, below_drewN t.bl n⟩
theorem Rows8.next {w : World} {R gX gY : Nat} {x y : Nat → Int} {W w1 : World} (t : Rows8 w R gX gY x y W) (hb : Below W.heap.size W w1) : Rows8 w R gX gY x y w1 :=
  ⟨fun j hj => keep_cell hb (t.xc j hj), fun j hj => keep_melt hb (t.xc j hj) (t.xf j hj), fun j hj => keep_cell hb (t.yc j hj), keep_cell hb t.r0, keep_cell hb t.r1, keep_melt hb t.r0 t.f0, keep_melt hb t.r1 t.f1, t.ne, t.nr, t.ge, below_step t.bl hb⟩
theorem Rows8.put {w : World} {R gX gY : Nat} {x y : Nat → Int} {W : World} (t : Rows8 w R gX gY x y W) (k : Nat) (hk : k < 8) (v : Int) : Rows8 w R gX gY (fun j => if j = k then v else x j) y (W.setCell ⟨gX, k, none⟩ (.int .u64 v)) := by
  refine ⟨?_, fun j hj => (World.frozen?_setCell _ _ _ _).trans (t.xf j hj), fun j hj => keep_set (t.yc j hj) _ (Ne.symm t.ne), keep_set t.r0 _ (Ne.symm t.nr), keep_set t.r1 _ (Ne.symm t.nr), (World.frozen?_setCell _ _ _ _).trans t.f0, (World.frozen?_setCell _ _ _ _).trans t.f1, t.ne, t.nr, t.ge, t.bl.setCell t.ge _⟩
  intro j hj
  by_cases h : j = k
  · subst h
    rw [if_pos rfl]
    have := t.xc j hj
    simp [go_sem, this]
  · rw [if_neg h]
    have := t.xc j hj
    rw [← this]
    simp [go_sem, this, h, Ne.symm h]
theorem Rows8.congr {w : World} {R gX gY : Nat} {x x' y : Nat → Int} {W : World} (t : Rows8 w R gX gY x y W) (h : ∀ j, j < 8 → x j = x' j) : Rows8 w R gX gY x' y W :=
  ⟨fun j hj => by rw [← h j hj]; exact t.xc j hj, t.xf, t.yc, t.r0, t.r1, t.f0, t.f1, t.ne, t.nr, t.ge, t.bl⟩
/-- Digits of c below k, of a from there on. -/
@[irreducible] def mix (c a k j : Nat) : Int := if j < k then dg c j else dg a j
theorem mix_zero (c a j : Nat) : mix c a 0 j = dg a j := by unfold mix; rw [if_neg (by omega)]
theorem mix_end (c a j : Nat) (h : j < 8) : mix c a 8 j = dg c j := by unfold mix; rw [if_pos h]
theorem mix_at (c a k : Nat) : mix c a k k = dg a k := by unfold mix; rw [if_neg (by omega)]
theorem mix_succ (c a k j : Nat) : (if j = k then dg c k else mix c a k j) = mix c a (k + 1) j := by
  unfold mix
  by_cases h : j = k
  · subst h; rw [if_pos rfl, if_pos (by omega)]
  · rw [if_neg h]
    by_cases l : j < k
    · rw [if_pos l, if_pos (by omega)]
    · rw [if_neg l, if_neg (by omega)]

set_option maxHeartbeats 4000000 in
set_option maxRecDepth 100000 in
theorem refAdd_any (a b : Nat) (ha : Fits a) (hb : Fits b) (w : World) : Calls Try.prog 12 #[U a, U b] w fun e w' => e = .returned (.tuple #[U (cut (a + b)), .bool (fitsB (a + b))]) ∧ Below w.heap.size w w' := by
  go_enter Try.func12, Try.ntmps12
  go_upto_region 1 with fail
  have S := Three.start w a b (.int .u64 0) (.int .u64 0)
  generalize ((w.alloc (.cells #[.int .u64 (hi a), .int .u64 (lo a)] 24)).alloc (.cells #[.int .u64 (hi b), .int .u64 (lo b)] 24)).alloc (.cells #[.int .u64 0, .int .u64 0] 24) = W at *
  have a0 := S.a0; have a1 := S.a1; have b0 := S.b0; have b1 := S.b1
  go_cut [6, 7] (fun s6 s7 wx => Both W a b s6 s7 wx)
  case first =>
    go_region_held3 (fun w' => w'.cell? ⟨w.heap.size, 0, none⟩ = some (.int .u64 (hi a)) ∧ w'.cell? ⟨w.heap.size, 1, none⟩ = some (.int .u64 (lo a)) ∧ w'.cell? ⟨w.heap.size + 1, 0, none⟩ = some (.int .u64 (hi b)) ∧ w'.cell? ⟨w.heap.size + 1, 1, none⟩ = some (.int .u64 (lo b)))
      ((refine ⟨?_, ?_, ?_, ?_⟩ <;> (repeat (first | with_reducible exact a0 | with_reducible exact a1 | with_reducible exact b0 | with_reducible exact b1 | with_reducible refine keep_alloc ?_ _ | with_reducible refine keep_drew ?_))))
      (first
        | (go_at_call 29; refine (digits_any _ (by assumption) _).mono ?_; rintro e w1 ⟨rfl, c1, c2, c3, rfl⟩))
    all_goals go_wp2_with fail
    all_goals go_meet
    all_goals go_light
    all_goals refine ⟨_, _, rfl, rfl, ?_, ?_, ?_, ?_, ?_, ?_⟩
    all_goals first
      | omega
      | (repeat (first
        | (with_reducible refine Blk.new _ ?_; (· ((try simp only [World.size_alloc, World.size_drew]); done)))
        | with_reducible refine Blk.old ?_ _ | with_reducible refine Blk.drew ?_
        | exact Below.refl _ _ | with_reducible refine Below.drew ?_ | (with_reducible refine Below.alloc ?_ ?_ _; rotate_left; (· ((try simp only [World.size_alloc, World.size_drew]); omega)))))
  case rest =>
    obtain ⟨gX, gY, rfl, rfl, BX, BY, gne, gx, gy, bl⟩ := hcut
    have T0 : Rows8 w (w.heap.size + 1 + 1) gX gY (mix (a + b) a 0) (dg b) wc := by
      have S' := S.next bl
      have sz := S.sz
      exact ⟨fun j hj => by rw [mix_zero]; exact BX.cell j hj, fun j _ => BX.melt j, fun j hj => BY.cell j hj, S'.r0, S'.r1, S'.m0, S'.m1, gne, by omega, by omega, S'.bl⟩
    clear bl gx gy gne b0 b1 a0 a1 S BX BY
    go_wp2_with fail
    go_loopg [8, 9, 10] 8 (fun g s8 s9 _ wr => ∃ k : Nat, k + g = 8 ∧ s9 = .int .i64 (k : Int) ∧ s8 = .int .u64 (carry a b k : Int) ∧ Rows8 w (w.heap.size + 1 + 1) gX gY (mix (a + b) a k) (dg b) wr)
    case atStart => exact ⟨0, rfl, rfl, by rw [carry_zero]; rfl, T0⟩
    case round =>
      clear T0
      obtain ⟨k, hg, rfl, rfl, T⟩ := hrel
      by_cases lt : k < 8
      · have x0 := T.xc k lt; have y0 := T.yc k lt; have xf := T.xf k lt
        rw [mix_at] at x0
        have k8 : (k : Int) < 8 := by omega
        have s1 := sum_step a b k
        have c1 := carry_le a b k
        have c2 := carry_le a b (k + 1)
        have E1 : Hid (IntKind.u64.wrap (IntKind.u64.wrap (dg a k + dg b k) + (carry a b k : Int)) = dg (a + b) k + 65536 * (carry a b (k + 1) : Int)) := by
          unfold Hid
          have h1 := dgN_lt a k; have h2 := dgN_lt b k
          rw [dg_nat, dg_nat, dg_nat, IntKind.wrap_u64, IntKind.wrap_u64]
          omega
        have E2 : Hid ((IntKind.u64.wrap (IntKind.u64.wrap (dg a k + dg b k) + (carry a b k : Int))).tmod 65536 = dg (a + b) k) := by
          unfold Hid; rw [E1.out]; have h1 := dgN_lt (a + b) k; rw [dg_nat, Int.tmod_eq_emod_of_nonneg (by omega)]; omega
        have E3 : Hid (IntKind.u64.wrap ((IntKind.u64.wrap (IntKind.u64.wrap (dg a k + dg b k) + (carry a b k : Int))).tdiv 65536) = (carry a b (k + 1) : Int)) := by
          unfold Hid; rw [E1.out]; have h1 := dgN_lt (a + b) k; rw [dg_nat, Int.tdiv_eq_ediv_of_nonneg (by omega), IntKind.wrap_u64]; omega
        have HG := Lib.hid hg
        clear s1 c1 c2 hg
        go_wp2_with fail
        go_quiet (fail)
        go_wp2_with fail
        go_roundg (gk - 1)
        case measure => have := HG.out; omega
        case rel =>
          go_light
          refine ⟨k + 1, by have := HG.out; omega, by go_num, by rw [E3.out], ?_⟩
          rw [E2.out]
          exact ((T.drewN nq).put k lt _).congr (fun j _ => mix_succ (a + b) a k j)
      · have e8 : k = 8 := by omega
        subst e8
        have k8 : ¬ ((8 : Nat) : Int) < 8 := by decide
        clear hg lt
        have r0 := T.r0; have r1 := T.r1; have f0 := T.f0; have f1 := T.f1
        have x0 := T.xc 0 (by decide); have x1 := T.xc 1 (by decide); have x2 := T.xc 2 (by decide); have x3 := T.xc 3 (by decide); have x4 := T.xc 4 (by decide); have x5 := T.xc 5 (by decide); have x6 := T.xc 6 (by decide); have x7 := T.xc 7 (by decide)
        rw [mix_end _ _ _ (by decide)] at x0 x1 x2 x3 x4 x5 x6 x7
        by_cases f : Fits (a + b)
        · have c0 := carry_fits a b f
          have E1 := Lib.hid (cut_yes f); have E2 := Lib.hid (fitsB_yes f)
          have K := Lib.hid (number_any (dg (a + b)) (fun j _ => ⟨dg_nonneg _ j, dg_lt _ j⟩))
          rw [num_dg _ f] at K
          clear f
          go_wp2_with fail
          refine (K.out _).mono ?_
          rintro e w5 ⟨rfl, hb5⟩
          have T5 := T.next hb5
          clear r0 r1 f0 f1 x0 x1 x2 x3 x4 x5 x6 x7
          have r0 := T5.r0; have r1 := T5.r1; have f0 := T5.f0; have f1 := T5.f1
          go_wp2_with fail
          go_light
          exact bodyPost_ret (v := .tuple #[U (a + b), .bool true]) (by simp [results, Try.results12, go_sem, r0, r1]) rfl ⟨by rw [E1.out, E2.out], (T5.bl.setCell (by simp only []; omega) _).setCell (by simp only []; omega) _⟩
        · have c0 := carry_over a b ha hb f
          have E1 := Lib.hid (cut_no f); have E2 := Lib.hid (fitsB_no f)
          clear f
          go_wp2_with fail
          go_light
          exact bodyPost_ret (v := .tuple #[U 0, .bool false]) (by simp [results, Try.results12, go_sem, hi_zero, lo_zero, r0, r1]) rfl ⟨by rw [E1.out, E2.out], (T.bl.setCell (by simp only []; omega) _).setCell (by simp only []; omega) _⟩
end Go.Proofs.Ytgafejolijjiiaa
