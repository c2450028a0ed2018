/- The walk of the document's answer: Mul. -/
import Derived.Test.YtgafejolijjiiaaRefD
import Derived.Test.YtgafejolijjiiaaMathS
namespace Go.Proofs.Ytgafejolijjiiaa
open Go.RowKit
set_option linter.unusedSimpArgs false
set_option linter.unusedVariables false

/-- Three rows of digits, the third of which may be written, and the result's block. -/
structure Rows16 (w : World) (R gX gY gO : Nat) (x y : Nat → Int) (d : Nat → Nat) (wx : World) : Prop where
  xc : ∀ j, j < 8 → wx.cell? ⟨gX, j, none⟩ = some (.int .u64 (x j))
  yc : ∀ j, j < 8 → wx.cell? ⟨gY, j, none⟩ = some (.int .u64 (y j))
  oc : ∀ j, j < 16 → wx.cell? ⟨gO, j, none⟩ = some (.int .u64 (d j : Int))
  om : ∀ j, j < 16 → wx.frozen? ⟨gO, j, none⟩ = false
  r0 : wx.cell? ⟨R, 0, none⟩ = some (.int .u64 0)
  r1 : wx.cell? ⟨R, 1, none⟩ = some (.int .u64 0)
  f0 : wx.frozen? ⟨R, 0, none⟩ = false
  f1 : wx.frozen? ⟨R, 1, none⟩ = false
  nx : gO ≠ gX
  ny : gO ≠ gY
  nr : gO ≠ R
  ge : w.heap.size ≤ gO
  bl : Below w.heap.size w wx
theorem Rows16.drewN {w : World} {R gX gY gO : Nat} {x y : Nat → Int} {d : Nat → Nat} {W : World} (t : Rows16 w R gX gY gO x y d W) (n : Nat) : Rows16 w R gX gY gO x y d (W.drewN n) := ⟨t.xc, t.yc, t.oc, t.om, t.r0, t.r1, t.f0, t.f1, t.nx, t.ny, t.nr, t.ge, below_drewN t.bl n⟩
theorem Rows16.next {w : World} {R gX gY gO : Nat} {x y : Nat → Int} {d : Nat → Nat} {W w1 : World} (t : Rows16 w R gX gY gO x y d W) (hb : Below W.heap.size W w1) : Rows16 w R gX gY gO x y d w1 :=
  ⟨fun j hj => keep_cell hb (t.xc j hj), fun j hj => keep_cell hb (t.yc j hj), fun j hj => keep_cell hb (t.oc j hj), fun j hj => keep_melt hb (t.oc j hj) (t.om j hj), keep_cell hb t.r0, keep_cell hb t.r1, keep_melt hb t.r0 t.f0, keep_melt hb t.r1 t.f1, t.nx, t.ny, t.nr, t.ge, below_step t.bl hb⟩
theorem Rows16.put {w : World} {R gX gY gO : Nat} {x y : Nat → Int} {d : Nat → Nat} {W : World} (t : Rows16 w R gX gY gO x y d W) (k : Nat) (hk : k < 16) (v : Nat) : Rows16 w R gX gY gO x y (upd d k v) (W.setCell ⟨gO, k, none⟩ (.int .u64 (v : Int))) := by
  refine ⟨fun j hj => keep_set (t.xc j hj) _ (Ne.symm t.nx), fun j hj => keep_set (t.yc j hj) _ (Ne.symm t.ny), ?_, fun j hj => (World.frozen?_setCell _ _ _ _).trans (t.om j hj), keep_set t.r0 _ (Ne.symm t.nr), keep_set t.r1 _ (Ne.symm t.nr), (World.frozen?_setCell _ _ _ _).trans t.f0, (World.frozen?_setCell _ _ _ _).trans t.f1, t.nx, t.ny, t.nr, t.ge, t.bl.setCell t.ge _⟩
  intro j hj
  unfold upd
  by_cases h : j = k
  · subst h
    rw [if_pos rfl]
    have := t.oc j hj
    simp [go_sem, this]
  · rw [if_neg h]
    have := t.oc j hj
    rw [← this]
    simp [go_sem, this, h, Ne.symm h]

/-- The lower digits as far as they are laid. -/
@[irreducible] def low (d : Nat → Nat) (k j : Nat) : Int := if j < k then (d j : Int) else 0
theorem low_zero (d : Nat → Nat) (j : Nat) : low d 0 j = 0 := by unfold low; rw [if_neg (by omega)]
theorem low_end (d : Nat → Nat) (j : Nat) (h : j < 8) : low d 8 j = (d j : Int) := by unfold low; rw [if_pos h]
structure LowRow (w : World) (R gO gL : Nat) (d : Nat → Nat) (k : Nat) (wx : World) : Prop where
  lc : ∀ j, j < 8 → wx.cell? ⟨gL, j, none⟩ = some (.int .u64 (low d k j))
  lm : ∀ j, j < 8 → wx.frozen? ⟨gL, j, none⟩ = false
  no : gL ≠ gO
  nr : gL ≠ R
  ge : w.heap.size ≤ gL
theorem LowRow.put {w : World} {R gX gY gO gL : Nat} {x y : Nat → Int} {d : Nat → Nat} {k : Nat} {W : World} (t : LowRow w R gO gL d k W) (r : Rows16 w R gX gY gO x y d W) (nx : gL ≠ gX) (ny : gL ≠ gY) (hk : k < 8) :
    LowRow w R gO gL d (k + 1) (W.setCell ⟨gL, k, none⟩ (.int .u64 (d k : Int))) ∧ Rows16 w R gX gY gO x y d (W.setCell ⟨gL, k, none⟩ (.int .u64 (d k : Int))) := by
  refine ⟨⟨?_, fun j hj => (World.frozen?_setCell _ _ _ _).trans (t.lm j hj), t.no, t.nr, t.ge⟩, ⟨fun j hj => keep_set (r.xc j hj) _ (Ne.symm nx), fun j hj => keep_set (r.yc j hj) _ (Ne.symm ny), fun j hj => keep_set (r.oc j hj) _ (Ne.symm t.no), fun j hj => (World.frozen?_setCell _ _ _ _).trans (r.om j hj), keep_set r.r0 _ (Ne.symm t.nr), keep_set r.r1 _ (Ne.symm t.nr), (World.frozen?_setCell _ _ _ _).trans r.f0, (World.frozen?_setCell _ _ _ _).trans r.f1, r.nx, r.ny, r.nr, r.ge, r.bl.setCell t.ge _⟩⟩
  intro j hj
  by_cases h : j = k
  · subst h
    have := t.lc j hj
    have e : low d (j + 1) j = (d j : Int) := by unfold low; rw [if_pos (by omega)]
    rw [e]
    simp [go_sem, this]
  · have := t.lc j hj
    have e : low d (k + 1) j = low d k j := by
      unfold low
      by_cases l : j < k
      · rw [if_pos l, if_pos (by omega)]
      · rw [if_neg l, if_neg (by omega)]
    rw [e, ← this]
    simp [go_sem, this, h, Ne.symm h]

set_option maxHeartbeats 8000000 in
set_option maxRecDepth 100000 in
theorem refMul_any (a b : Nat) (ha : Fits a) (hb : Fits b) (w : World) : Calls Try.prog 18 #[U a, U b] w fun e w' => e = .returned (.tuple #[U (cut (a * b)), .bool (fitsB (a * b))]) ∧ Below w.heap.size w w' := by
  go_enter Try.func18, Try.ntmps18
  go_upto_region 1 with fail
  have S := Three.start w a b (.int .u64 0) (.int .u64 0)
  generalize ((w.alloc (.cells #[.int .u64 (hi a), .int .u64 (lo a)] 24)).alloc (.cells #[.int .u64 (hi b), .int .u64 (lo b)] 24)).alloc (.cells #[.int .u64 0, .int .u64 0] 24) = W at *
  have a0 := S.a0; have a1 := S.a1; have b0 := S.b0; have b1 := S.b1
  go_cut [6, 7] (fun s6 s7 wx => Both W a b s6 s7 wx)
  case first =>
    go_region_held3 (fun w' => w'.cell? ⟨w.heap.size, 0, none⟩ = some (.int .u64 (hi a)) ∧ w'.cell? ⟨w.heap.size, 1, none⟩ = some (.int .u64 (lo a)) ∧ w'.cell? ⟨w.heap.size + 1, 0, none⟩ = some (.int .u64 (hi b)) ∧ w'.cell? ⟨w.heap.size + 1, 1, none⟩ = some (.int .u64 (lo b)))
      ((refine ⟨?_, ?_, ?_, ?_⟩ <;> (repeat (first | with_reducible exact a0 | with_reducible exact a1 | with_reducible exact b0 | with_reducible exact b1 | with_reducible refine keep_alloc ?_ _ | with_reducible refine keep_drew ?_))))
      (first
        | (go_at_call 29; refine (digits_any _ (by assumption) _).mono ?_; rintro e w1 ⟨rfl, c1, c2, c3, rfl⟩))
    all_goals go_wp2_with fail
    all_goals go_meet
    all_goals go_light
    all_goals refine ⟨_, _, rfl, rfl, ?_, ?_, ?_, ?_, ?_, ?_⟩
    all_goals first
      | omega
      | (repeat (first
        | (with_reducible refine Blk.new _ ?_; (· ((try simp only [World.size_alloc, World.size_drew]); done)))
        | with_reducible refine Blk.old ?_ _ | with_reducible refine Blk.drew ?_
        | exact Below.refl _ _ | with_reducible refine Below.drew ?_ | (with_reducible refine Below.alloc ?_ ?_ _; rotate_left; (· ((try simp only [World.size_alloc, World.size_drew]); omega)))))
  case rest =>
    obtain ⟨gX, gY, rfl, rfl, BX, BY, gne, gx, gy, bl⟩ := hcut
    go_upto_region 3 with fail
    have S' := (S.next bl).alloc (.cells (Array.replicate 16 (.int .u64 0)) 46)
    have sz := (S.next bl).sz
    have T0 : Rows16 w (w.heap.size + 1 + 1) gX gY wc.heap.size (dg a) (dg b) (fun _ => 0) (wc.alloc (.cells (Array.replicate 16 (.int .u64 0)) 46)) := by
      refine ⟨fun j hj => keep_alloc (BX.cell j hj) _, fun j hj => keep_alloc (BY.cell j hj) _, fun j hj => ?_, fun j _ => ?_, S'.r0, S'.r1, S'.m0, S'.m1, Ne.symm (Nat.ne_of_lt BX.lt), Ne.symm (Nat.ne_of_lt BY.lt), by omega, by omega, S'.bl⟩
      · rw [World.cell?_alloc_mark wc (Array.replicate 16 (.int .u64 0)) 46 (0, 0) j]
        simp [hj]
      · rw [frozen?_alloc_cells]
        have e : wc.heap[wc.heap.size]? = none := by simp
        simp [World.frozen?, e]
    have T1 : Rows16 w (w.heap.size + 1 + 1) gX gY wc.heap.size (dg a) (dg b) (fun _ => 0) (wc.alloc (.cells #[.int .u64 0, .int .u64 0, .int .u64 0, .int .u64 0, .int .u64 0, .int .u64 0, .int .u64 0, .int .u64 0, .int .u64 0, .int .u64 0, .int .u64 0, .int .u64 0, .int .u64 0, .int .u64 0, .int .u64 0, .int .u64 0] 46)) := T0
    generalize wc.alloc (.cells #[.int .u64 0, .int .u64 0, .int .u64 0, .int .u64 0, .int .u64 0, .int .u64 0, .int .u64 0, .int .u64 0, .int .u64 0, .int .u64 0, .int .u64 0, .int .u64 0, .int .u64 0, .int .u64 0, .int .u64 0, .int .u64 0] 46) = W1 at *
    generalize wc.heap.size = gO at *
    clear T0 S' sz S BX BY gne gx gy bl a0 a1 b0 b1
    go_wp2_with fail
    go_loopg [9, 10, 11, 12] 8 (fun g s9 _ _ _ wr => ∃ (i : Nat) (d : Nat → Nat), i + g = 8 ∧ s9 = .int .i64 (i : Int) ∧ Hid (Part16 a b i 0 0 d) ∧ Rows16 w (w.heap.size + 1 + 1) gX gY gO (dg a) (dg b) d wr)
    case atStart => exact ⟨0, _, rfl, rfl, Part16.start a b, T1⟩
    case round =>
      clear T1
      obtain ⟨i, d, hg, rfl, P, T⟩ := hrel
      have HG := Lib.hid hg
      clear hg
      by_cases lt : i < 8
      · have i8 : (i : Int) < 8 := by omega
        go_wp2_with fail
        go_loopg [10, 11, 12] 8 (fun g s10 s11 _ wr => ∃ (k o : Nat) (d : Nat → Nat), k + g = 8 ∧ s11 = .int .i64 (k : Int) ∧ s10 = .int .u64 (o : Int) ∧ Hid (Part16 a b i k o d) ∧ Rows16 w (w.heap.size + 1 + 1) gX gY gO (dg a) (dg b) d wr)
        case atStart => exact ⟨0, 0, d, rfl, rfl, rfl, P, T⟩
        case round =>
          clear P T d
          obtain ⟨k, o, d, hg2, rfl, rfl, P, T⟩ := hrel
          have HG2 := Lib.hid hg2
          clear hg2
          by_cases lt2 : k < 8
          · have k8 : (k : Int) < 8 := by omega
            have x0 := T.xc i lt; have y0 := T.yc k lt2; have o0 := T.oc (i + k) (by omega); have om := T.om (i + k) (by omega)
            obtain ⟨X, hX⟩ : ∃ X, d (i + k) + dgN a i * dgN b k + o = X := ⟨_, rfl⟩
            have P2 := Lib.hid (P.out.step lt lt2)
            rw [hX] at P2
            have bd1 := P.out.lt (i + k) (by omega)
            have bd2 := P.out.ob
            have l1 := dgN_lt a i
            have l2 := dgN_lt b k
            have l5 : dgN a i * dgN b k ≤ 65535 * 65535 := Nat.mul_le_mul (by omega) (by omega)
            have em : dg a i * dg b k = ((dgN a i * dgN b k : Nat) : Int) := by rw [dg_nat, dg_nat]; exact (Int.natCast_mul _ _).symm
            have E1 : Hid (IntKind.u64.wrap (IntKind.u64.wrap ((d (i + k) : Int) + IntKind.u64.wrap (dg a i * dg b k)) + (o : Int)) = (X : Int)) := by
              unfold Hid
              rw [em, IntKind.wrap_u64, IntKind.wrap_u64, IntKind.wrap_u64]
              generalize dgN a i * dgN b k = m at *
              omega
            have E2 : Hid ((X : Int).tmod 65536 = ((X % 65536 : Nat) : Int)) := by unfold Hid; rw [Int.tmod_eq_emod_of_nonneg (by omega)]; omega
            have E3 : Hid (IntKind.u64.wrap ((X : Int).tdiv 65536) = ((X / 65536 : Nat) : Int)) := by
              unfold Hid
              rw [Int.tdiv_eq_ediv_of_nonneg (by omega), IntKind.wrap_u64]
              generalize dgN a i * dgN b k = m at *
              omega
            clear hX bd1 bd2 l1 l2 l5 em P
            have w1 : IntKind.i64.wrap ((i : Int) + (k : Int)) = (i : Int) + (k : Int) := by
              simp [IntKind.wrap, IntKind.bits, IntKind.signed]; omega
            have w2 : 0 ≤ (i : Int) + (k : Int) := by omega
            have w3 : ((i : Int) + (k : Int)).toNat = i + k := by omega
            have w4 : (i : Int) + (k : Int) < 16 := by omega
            go_wp2_with fail
            go_quiet (fail)
            go_wp2_with fail
            go_roundg (gk - 1)
            case measure => have := HG2.out; omega
            case rel =>
              go_light
              refine ⟨k + 1, _, _, by have := HG2.out; omega, by go_num, by rw [E1.out, E3.out], P2, ?_⟩
              rw [E1.out, E2.out]
              exact (T.drewN nq).put (i + k) (by omega) _
          · have e8 : k = 8 := by have := HG2.out; omega
            subst e8
            have k8 : ¬ ((8 : Nat) : Int) < 8 := by decide
            have P2 := Lib.hid (P.out.row lt hb)
            have o0 := T.oc (i + 8) (by omega); have om := T.om (i + 8) (by omega)
            have w3 : ((i : Int) + 8).toNat = i + 8 := by omega
            clear P lt2 HG2
            go_wp2_with fail
            go_roundg (7 - i)
            case measure => have := HG.out; omega
            case rel =>
              go_light
              exact ⟨i + 1, _, by have := HG.out; omega, by go_num, P2, T.put (i + 8) (by omega) o⟩
      · have e8 : i = 8 := by have := HG.out; omega
        subst e8
        have i8 : ¬ ((8 : Nat) : Int) < 8 := by decide
        clear lt HG
        go_upto_region 15 with fail
        have zx := cell_lt (T.xc 0 (by decide)); have zy := cell_lt (T.yc 0 (by decide)); have zo := cell_lt (T.oc 0 (by decide)); have zr := cell_lt T.r0
        simp only [] at zx zy zo zr
        have T2 := T.next ((Below.refl _ _).alloc (Nat.le_refl _) (.cells #[.int .u64 0, .int .u64 0, .int .u64 0, .int .u64 0, .int .u64 0, .int .u64 0, .int .u64 0, .int .u64 0] 42))
        have LR : LowRow w (w.heap.size + 1 + 1) gO wr.heap.size d 0 (wr.alloc (.cells #[.int .u64 0, .int .u64 0, .int .u64 0, .int .u64 0, .int .u64 0, .int .u64 0, .int .u64 0, .int .u64 0] 42)) := by
          have BL : Blk (wr.alloc (.cells #[.int .u64 0, .int .u64 0, .int .u64 0, .int .u64 0, .int .u64 0, .int .u64 0, .int .u64 0, .int .u64 0] 42)) wr.heap.size (fun _ => 0) := Blk.new (fun _ => 0) rfl
          exact ⟨fun j hj => by rw [low_zero]; exact BL.cell j hj, fun j _ => BL.melt j, by omega, by omega, by omega⟩
        have nx : wr.heap.size ≠ gX := by omega
        have ny : wr.heap.size ≠ gY := by omega
        generalize wr.alloc (.cells #[.int .u64 0, .int .u64 0, .int .u64 0, .int .u64 0, .int .u64 0, .int .u64 0, .int .u64 0, .int .u64 0] 42) = W2 at *
        generalize wr.heap.size = gL at *
        clear zx zy zo zr T
        go_wp2_with fail
        go_loopg [14] 8 (fun g s14 wr => ∃ k : Nat, k + g = 8 ∧ s14 = .int .i64 (k : Int) ∧ Hid (∀ j, j < k → d (8 + j) = 0) ∧ Rows16 w (w.heap.size + 1 + 1) gX gY gO (dg a) (dg b) d wr ∧ LowRow w (w.heap.size + 1 + 1) gO gL d k wr)
        case atStart => exact ⟨0, rfl, rfl, fun j h => by omega, T2, LR⟩
        case round =>
          clear T2 LR
          obtain ⟨k, hg, rfl, Z, T, LR⟩ := hrel
          have HG := Lib.hid hg
          clear hg
          have r0 := T.r0; have r1 := T.r1; have f0 := T.f0; have f1 := T.f1
          by_cases lt : k < 8
          · have k8 : (k : Int) < 8 := by omega
            have o0 := T.oc k (by omega); have o1 := T.oc (8 + k) (by omega)
            have l0 := LR.lc k lt; have lm := LR.lm k lt
            have w3 : (8 + (k : Int)).toNat = 8 + k := by omega
            by_cases dz : d (8 + k) = 0
            · have dz' : ¬ (0 : Int) < (d (8 + k) : Int) := by omega
              have Z2 : Hid (∀ j, j < k + 1 → d (8 + j) = 0) := by
                intro j hj
                by_cases e : j = k
                · subst e; exact dz
                · exact Z.out j (by omega)
              clear Z
              go_wp2_with fail
              go_roundg (gk - 1)
              case measure => have := HG.out; omega
              case rel =>
                go_light
                have pu := LR.put T nx ny lt
                exact ⟨k + 1, by have := HG.out; omega, by go_num, Z2, pu.2, pu.1⟩
            · have dz' : (0 : Int) < (d (8 + k) : Int) := by omega
              have nf := P.out.great ha k lt (by omega)
              have E1 := Lib.hid (cut_no nf); have E2 := Lib.hid (fitsB_no nf)
              clear nf dz Z
              go_wp2_with fail
              go_light
              exact bodyPost_ret (v := .tuple #[U 0, .bool false]) (by simp [results, Try.results18, go_sem, hi_zero, lo_zero, r0, r1]) rfl ⟨by rw [E1.out, E2.out], (T.bl.setCell (by simp only []; omega) _).setCell (by simp only []; omega) _⟩
          · have e8 : k = 8 := by have := HG.out; omega
            subst e8
            have k8 : ¬ ((8 : Nat) : Int) < 8 := by decide
            obtain ⟨pn, pf⟩ := P.out.small ha (fun j hj => Z.out j hj)
            have E1 := Lib.hid (cut_yes pf); have E2 := Lib.hid (fitsB_yes pf)
            have K := Lib.hid (number_any (fun j => (d j : Int)) (fun j hj => ⟨by omega, by have := P.out.lt j (by omega); omega⟩))
            rw [pn] at K
            have x0 := LR.lc 0 (by decide); have x1 := LR.lc 1 (by decide); have x2 := LR.lc 2 (by decide); have x3 := LR.lc 3 (by decide); have x4 := LR.lc 4 (by decide); have x5 := LR.lc 5 (by decide); have x6 := LR.lc 6 (by decide); have x7 := LR.lc 7 (by decide)
            rw [low_end _ _ (by decide)] at x0 x1 x2 x3 x4 x5 x6 x7
            clear pn pf lt HG Z
            go_wp2_with fail
            refine (K.out _).mono ?_
            rintro e w5 ⟨rfl, hb5⟩
            have T5 := T.next hb5
            clear r0 r1 f0 f1 x0 x1 x2 x3 x4 x5 x6 x7
            have r0 := T5.r0; have r1 := T5.r1; have f0 := T5.f0; have f1 := T5.f1
            go_wp2_with fail
            go_light
            exact bodyPost_ret (v := .tuple #[U (a * b), .bool true]) (by simp [results, Try.results18, go_sem, r0, r1]) rfl ⟨by rw [E1.out, E2.out], (T5.bl.setCell (by simp only []; omega) _).setCell (by simp only []; omega) _⟩
end Go.Proofs.Ytgafejolijjiiaa
