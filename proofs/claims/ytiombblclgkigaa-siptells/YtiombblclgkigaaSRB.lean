/- Turns, as the document does them. -/
import Derived.Test.YtiombblclgkigaaSRA
import Derived.Test.YtiombblclgkigaaSM
namespace Go.Proofs.Ytiombblclgkigaa
open Go.RowKit
set_option maxHeartbeats 2000000
set_option maxRecDepth 100000
set_option linter.unusedVariables false
def rturnN : Nat → V4 → V4
  | 0, v => v
  | n + 1, v => turn (rturnN n v)
theorem refTurns_any (v : V4) (m : Nat) (hm : m ≤ 1000) (w : World) : Calls Try.prog 18 #[v.val, .int .i64 (m : Int)] w fun e w' => e = .returned (rturnN m v).val ∧ Below w.heap.size w w' := by
  obtain ⟨a, b, c, d⟩ := v
  go_enter Try.func18, Try.ntmps18
  go_upto_region 1 with fail
  have M := Two.new w #[.int .u64 (I a), .int .u64 (I b), .int .u64 (I c), .int .u64 (I d)] #[.int .u64 0, .int .u64 0, .int .u64 0, .int .u64 0] 29 29
  generalize (w.alloc (.cells #[.int .u64 (I a), .int .u64 (I b), .int .u64 (I c), .int .u64 (I d)] 29)).alloc (.cells #[.int .u64 0, .int .u64 0, .int .u64 0, .int .u64 0] 29) = W at *
  obtain ⟨g, hg⟩ : ∃ g, g = w.heap.size := ⟨_, rfl⟩
  obtain ⟨r, hr⟩ : ∃ r, r = g + 1 := ⟨_, rfl⟩
  rw [← hg, ← hr] at M
  rw [← hg, ← hr]
  clear hg hr
  obtain ⟨v, hv⟩ : ∃ v, Hid (v = V4.mk a b c d) := ⟨_, Lib.hid rfl⟩
  replace M : Two w g r (rturnN 0 v).cells #[.int .u64 0, .int .u64 0, .int .u64 0, .int .u64 0] W := by rw [hv.out]; exact M

  go_wp2_with fail
  go_loopg [5] m (fun q s5 wr => ∃ i : Nat, i + q = m ∧ s5 = .int .i64 (i : Int) ∧ Two w g r (rturnN i v).cells #[.int .u64 0, .int .u64 0, .int .u64 0, .int .u64 0] wr)
  case atStart => exact ⟨0, by omega, rfl, M⟩
  case round =>
    clear M
    obtain ⟨i, hq, rfl, M⟩ := hrel
    obtain ⟨⟨a, b, c, d⟩, hz⟩ : ∃ x, Hid (x = rturnN i v) := ⟨_, Lib.hid rfl⟩
    rw [← hz.out] at M
    have HQ := Lib.hid hq
    by_cases lt : i < m
    · have i1 : (i : Int) < m := by omega
      have i0 : (0 : Int) ≤ i := by omega
      have i2 : (i : Int) ≤ 1000 := by omega
      have GP : Hid (1 ≤ gk) := by unfold Hid; omega
      clear hq lt hm
      change Two w g r #[.int .u64 (I a), .int .u64 (I b), .int .u64 (I c), .int .u64 (I d)] _ _ at M
      obtain ⟨W0, hW⟩ : ∃ W0, W0 = wr := ⟨_, rfl⟩
      rw [← hW] at M
      rw [← hW]
      clear hW
      go_upto_region 4 with fail
      have c0 := M.bg.cell (i := 0) rfl; have c1 := M.bg.cell (i := 1) rfl; have c2 := M.bg.cell (i := 2) rfl; have c3 := M.bg.cell (i := 3) rfl; have f := M.bg.melt 0
      go_upto_region 5 with fail
      rw [add_I]
      obtain ⟨x0, hx0⟩ : ∃ x, Hid (x = a + b) := ⟨_, Lib.hid rfl⟩
      rw [← hx0.out]
      replace M := (M.set 0 (.int .u64 (I x0)))
      clear c0 c1 c2 c3 f
      generalize (W0.setCell ⟨g, 0, none⟩ (.int .u64 (I x0))) = W1 at *
      change Two w g r #[.int .u64 (I x0), .int .u64 (I b), .int .u64 (I c), .int .u64 (I d)] _ _ at M
      have c0 := M.bg.cell (i := 0) rfl; have c1 := M.bg.cell (i := 1) rfl; have c2 := M.bg.cell (i := 2) rfl; have c3 := M.bg.cell (i := 3) rfl; have f := M.bg.melt 1
      go_cut [22] (fun s wx => s = (.int .u64 (I (rl b 13 ^^^ x0))) ∧ wx = (W1.setCell ⟨g, 1, none⟩ (.int .u64 (I (rl b 13 ^^^ x0)))).drew)
      case first =>
        go_region_with (go_at_call 26; refine (left13 _ _).mono ?_; rintro e w' ⟨rfl, rfl⟩)
        all_goals go_wp2_with fail
        all_goals go_meet
        all_goals (rw [xor_I]; exact ⟨rfl, rfl⟩)
      obtain ⟨rfl, rfl⟩ := hcut
      obtain ⟨x1, hx1⟩ : ∃ x, Hid (x = rl b 13 ^^^ x0) := ⟨_, Lib.hid rfl⟩
      rw [← hx1.out]
      replace M := (M.set 1 (.int .u64 (I x1))).drew
      clear c0 c1 c2 c3 f
      generalize (W1.setCell ⟨g, 1, none⟩ (.int .u64 (I x1))).drew = W2 at *
      change Two w g r #[.int .u64 (I x0), .int .u64 (I x1), .int .u64 (I c), .int .u64 (I d)] _ _ at M
      have c0 := M.bg.cell (i := 0) rfl; have c1 := M.bg.cell (i := 1) rfl; have c2 := M.bg.cell (i := 2) rfl; have c3 := M.bg.cell (i := 3) rfl; have f := M.bg.melt 0
      go_upto_region 7 with (go_at_call 26; refine (left32 _ _).mono ?_; rintro e w' ⟨rfl, rfl⟩)
      obtain ⟨x2, hx2⟩ : ∃ x, Hid (x = rl x0 32) := ⟨_, Lib.hid rfl⟩
      rw [← hx2.out]
      replace M := (M.set 0 (.int .u64 (I x2)))
      clear c0 c1 c2 c3 f
      generalize (W2.setCell ⟨g, 0, none⟩ (.int .u64 (I x2))) = W3 at *
      change Two w g r #[.int .u64 (I x2), .int .u64 (I x1), .int .u64 (I c), .int .u64 (I d)] _ _ at M
      have c0 := M.bg.cell (i := 0) rfl; have c1 := M.bg.cell (i := 1) rfl; have c2 := M.bg.cell (i := 2) rfl; have c3 := M.bg.cell (i := 3) rfl; have f := M.bg.melt 2
      go_upto_region 8 with fail
      rw [add_I]
      obtain ⟨x3, hx3⟩ : ∃ x, Hid (x = c + d) := ⟨_, Lib.hid rfl⟩
      rw [← hx3.out]
      replace M := (M.set 2 (.int .u64 (I x3)))
      clear c0 c1 c2 c3 f
      generalize (W3.setCell ⟨g, 2, none⟩ (.int .u64 (I x3))) = W4 at *
      change Two w g r #[.int .u64 (I x2), .int .u64 (I x1), .int .u64 (I x3), .int .u64 (I d)] _ _ at M
      have c0 := M.bg.cell (i := 0) rfl; have c1 := M.bg.cell (i := 1) rfl; have c2 := M.bg.cell (i := 2) rfl; have c3 := M.bg.cell (i := 3) rfl; have f := M.bg.melt 3
      go_cut [39] (fun s wx => s = (.int .u64 (I (rl d 16 ^^^ x3))) ∧ wx = (W4.setCell ⟨g, 3, none⟩ (.int .u64 (I (rl d 16 ^^^ x3)))).drew)
      case first =>
        go_region_with (go_at_call 26; refine (left16 _ _).mono ?_; rintro e w' ⟨rfl, rfl⟩)
        all_goals go_wp2_with fail
        all_goals go_meet
        all_goals (rw [xor_I]; exact ⟨rfl, rfl⟩)
      obtain ⟨rfl, rfl⟩ := hcut
      obtain ⟨x4, hx4⟩ : ∃ x, Hid (x = rl d 16 ^^^ x3) := ⟨_, Lib.hid rfl⟩
      rw [← hx4.out]
      replace M := (M.set 3 (.int .u64 (I x4))).drew
      clear c0 c1 c2 c3 f
      generalize (W4.setCell ⟨g, 3, none⟩ (.int .u64 (I x4))).drew = W5 at *
      change Two w g r #[.int .u64 (I x2), .int .u64 (I x1), .int .u64 (I x3), .int .u64 (I x4)] _ _ at M
      have c0 := M.bg.cell (i := 0) rfl; have c1 := M.bg.cell (i := 1) rfl; have c2 := M.bg.cell (i := 2) rfl; have c3 := M.bg.cell (i := 3) rfl; have f := M.bg.melt 0
      go_upto_region 10 with fail
      rw [add_I]
      obtain ⟨x5, hx5⟩ : ∃ x, Hid (x = x2 + x4) := ⟨_, Lib.hid rfl⟩
      rw [← hx5.out]
      replace M := (M.set 0 (.int .u64 (I x5)))
      clear c0 c1 c2 c3 f
      generalize (W5.setCell ⟨g, 0, none⟩ (.int .u64 (I x5))) = W6 at *
      change Two w g r #[.int .u64 (I x5), .int .u64 (I x1), .int .u64 (I x3), .int .u64 (I x4)] _ _ at M
      have c0 := M.bg.cell (i := 0) rfl; have c1 := M.bg.cell (i := 1) rfl; have c2 := M.bg.cell (i := 2) rfl; have c3 := M.bg.cell (i := 3) rfl; have f := M.bg.melt 3
      go_cut [52] (fun s wx => s = (.int .u64 (I (rl x4 21 ^^^ x5))) ∧ wx = (W6.setCell ⟨g, 3, none⟩ (.int .u64 (I (rl x4 21 ^^^ x5)))).drew)
      case first =>
        go_region_with (go_at_call 26; refine (left21 _ _).mono ?_; rintro e w' ⟨rfl, rfl⟩)
        all_goals go_wp2_with fail
        all_goals go_meet
        all_goals (rw [xor_I]; exact ⟨rfl, rfl⟩)
      obtain ⟨rfl, rfl⟩ := hcut
      obtain ⟨x6, hx6⟩ : ∃ x, Hid (x = rl x4 21 ^^^ x5) := ⟨_, Lib.hid rfl⟩
      rw [← hx6.out]
      replace M := (M.set 3 (.int .u64 (I x6))).drew
      clear c0 c1 c2 c3 f
      generalize (W6.setCell ⟨g, 3, none⟩ (.int .u64 (I x6))).drew = W7 at *
      change Two w g r #[.int .u64 (I x5), .int .u64 (I x1), .int .u64 (I x3), .int .u64 (I x6)] _ _ at M
      have c0 := M.bg.cell (i := 0) rfl; have c1 := M.bg.cell (i := 1) rfl; have c2 := M.bg.cell (i := 2) rfl; have c3 := M.bg.cell (i := 3) rfl; have f := M.bg.melt 2
      go_upto_region 12 with fail
      rw [add_I]
      obtain ⟨x7, hx7⟩ : ∃ x, Hid (x = x3 + x1) := ⟨_, Lib.hid rfl⟩
      rw [← hx7.out]
      replace M := (M.set 2 (.int .u64 (I x7)))
      clear c0 c1 c2 c3 f
      generalize (W7.setCell ⟨g, 2, none⟩ (.int .u64 (I x7))) = W8 at *
      change Two w g r #[.int .u64 (I x5), .int .u64 (I x1), .int .u64 (I x7), .int .u64 (I x6)] _ _ at M
      have c0 := M.bg.cell (i := 0) rfl; have c1 := M.bg.cell (i := 1) rfl; have c2 := M.bg.cell (i := 2) rfl; have c3 := M.bg.cell (i := 3) rfl; have f := M.bg.melt 1
      go_cut [65] (fun s wx => s = (.int .u64 (I (rl x1 17 ^^^ x7))) ∧ wx = (W8.setCell ⟨g, 1, none⟩ (.int .u64 (I (rl x1 17 ^^^ x7)))).drew)
      case first =>
        go_region_with (go_at_call 26; refine (left17 _ _).mono ?_; rintro e w' ⟨rfl, rfl⟩)
        all_goals go_wp2_with fail
        all_goals go_meet
        all_goals (rw [xor_I]; exact ⟨rfl, rfl⟩)
      obtain ⟨rfl, rfl⟩ := hcut
      obtain ⟨x8, hx8⟩ : ∃ x, Hid (x = rl x1 17 ^^^ x7) := ⟨_, Lib.hid rfl⟩
      rw [← hx8.out]
      replace M := (M.set 1 (.int .u64 (I x8))).drew
      clear c0 c1 c2 c3 f
      generalize (W8.setCell ⟨g, 1, none⟩ (.int .u64 (I x8))).drew = W9 at *
      change Two w g r #[.int .u64 (I x5), .int .u64 (I x8), .int .u64 (I x7), .int .u64 (I x6)] _ _ at M
      have c0 := M.bg.cell (i := 0) rfl; have c1 := M.bg.cell (i := 1) rfl; have c2 := M.bg.cell (i := 2) rfl; have c3 := M.bg.cell (i := 3) rfl; have f := M.bg.melt 2
      go_upto_region 3 with (go_at_call 26; refine (left32 _ _).mono ?_; rintro e w' ⟨rfl, rfl⟩)
      obtain ⟨x9, hx9⟩ : ∃ x, Hid (x = rl x7 32) := ⟨_, Lib.hid rfl⟩
      rw [← hx9.out]
      replace M := (M.set 2 (.int .u64 (I x9)))
      clear c0 c1 c2 c3 f
      generalize (W9.setCell ⟨g, 2, none⟩ (.int .u64 (I x9))) = W10 at *
      change Two w g r #[.int .u64 (I x5), .int .u64 (I x8), .int .u64 (I x9), .int .u64 (I x6)] _ _ at M
      go_wp2_with fail
      go_roundg (gk - 1)
      case measure => have := GP.out; omega
      case rel =>
        go_light
        refine ⟨i + 1, by have := HQ.out; have := GP.out; omega, by go_num, ?_⟩
        have e : (⟨x5, x8, x9, x6⟩ : V4) = rturnN (i + 1) v := by
          obtain rfl := hx9.out; obtain rfl := hx8.out; obtain rfl := hx7.out; obtain rfl := hx6.out; obtain rfl := hx5.out; obtain rfl := hx4.out; obtain rfl := hx3.out; obtain rfl := hx2.out; obtain rfl := hx1.out; obtain rfl := hx0.out
          rw [rturnN, ← hz.out]; rfl
        rw [← e]
        exact M
    · have i1 : ¬ (i : Int) < m := by omega
      obtain rfl : i = m := by omega
      clear hq lt
      change Two w g r #[.int .u64 (I a), .int .u64 (I b), .int .u64 (I c), .int .u64 (I d)] _ _ at M
      have c0 := M.bg.cell (i := 0) rfl; have c1 := M.bg.cell (i := 1) rfl; have c2 := M.bg.cell (i := 2) rfl; have c3 := M.bg.cell (i := 3) rfl
      have k0 := M.br.cell (i := 0) rfl; have k1 := M.br.cell (i := 1) rfl; have k2 := M.br.cell (i := 2) rfl; have k3 := M.br.cell (i := 3) rfl
      have m0 := M.br.melt 0; have m1 := M.br.melt 1; have m2 := M.br.melt 2; have m3 := M.br.melt 3
      go_wp2_with fail
      clear c0 c1 c2 c3 k0 k1 k2 k3 m0 m1 m2 m3
      replace M := M.put4 (.int .u64 (I a)) (.int .u64 (I b)) (.int .u64 (I c)) (.int .u64 (I d))
      generalize (((wr.setCell ⟨r, 0, none⟩ (.int .u64 (I a))).setCell ⟨r, 1, none⟩ (.int .u64 (I b))).setCell ⟨r, 2, none⟩ (.int .u64 (I c))).setCell ⟨r, 3, none⟩ (.int .u64 (I d)) = W11 at *
      have k0 := M.br.cell (i := 0) rfl; have k1 := M.br.cell (i := 1) rfl; have k2 := M.br.cell (i := 2) rfl; have k3 := M.br.cell (i := 3) rfl
      refine bodyPost_ret (v := V4.val ⟨a, b, c, d⟩) (by simp [results, Try.results18, go_sem, k0, k1, k2, k3]) rfl ⟨?_, M.bl⟩
      rw [hz.out, hv.out]
end Go.Proofs.Ytiombblclgkigaa
