/- A turn, as the program does it. -/
import Derived.Test.YtiombblclgkigaaSA
import Derived.Test.YtiombblclgkigaaSM
namespace Go.Proofs.Ytiombblclgkigaa
open Go.RowKit
set_option maxHeartbeats 2000000
set_option maxRecDepth 100000
theorem turn_any (v : V4) (w : World) : Calls Try.prog 25 #[v.val] w fun e w' => e = .returned (turn v).val ∧ Below w.heap.size w w' := by
  obtain ⟨a, b, c, d⟩ := v
  go_enter Try.func25, Try.ntmps25
  go_upto_region 1 with fail
  have M := Two.new w #[.int .u64 (I a), .int .u64 (I b), .int .u64 (I c), .int .u64 (I d)] #[.int .u64 0, .int .u64 0, .int .u64 0, .int .u64 0] 41 41
  generalize (w.alloc (.cells #[.int .u64 (I a), .int .u64 (I b), .int .u64 (I c), .int .u64 (I d)] 41)).alloc (.cells #[.int .u64 0, .int .u64 0, .int .u64 0, .int .u64 0] 41) = W0 at *
  obtain ⟨g, hg⟩ : ∃ g, g = w.heap.size := ⟨_, rfl⟩
  obtain ⟨r, hr⟩ : ∃ r, r = g + 1 := ⟨_, rfl⟩
  rw [← hg, ← hr] at M
  rw [← hg, ← hr]
  clear hg hr
  have c0 := M.bg.cell (i := 0) rfl; have c1 := M.bg.cell (i := 1) rfl; have c2 := M.bg.cell (i := 2) rfl; have c3 := M.bg.cell (i := 3) rfl; have f := M.bg.melt 0
  go_upto_region 2 with fail
  rw [add_I]
  obtain ⟨x0, hx0⟩ : ∃ x, Hid (x = a + b) := ⟨_, Lib.hid rfl⟩
  rw [← hx0.out]
  replace M := (M.set 0 (.int .u64 (I x0)))
  clear c0 c1 c2 c3 f
  generalize (W0.setCell ⟨g, 0, none⟩ (.int .u64 (I x0))) = W1 at *
  change Two w g r #[.int .u64 (I x0), .int .u64 (I b), .int .u64 (I c), .int .u64 (I d)] _ _ at M
  have c0 := M.bg.cell (i := 0) rfl; have c1 := M.bg.cell (i := 1) rfl; have c2 := M.bg.cell (i := 2) rfl; have c3 := M.bg.cell (i := 3) rfl; have f := M.bg.melt 1
  go_cut [14] (fun s wx => s = (.int .u64 (I (rl b 13 ^^^ x0))) ∧ wx = (W1.setCell ⟨g, 1, none⟩ (.int .u64 (I (rl b 13 ^^^ x0)))).drew)
  case first =>
    go_region_with (go_at_call 28; refine (rot13 _ _).mono ?_; rintro e w' ⟨rfl, rfl⟩)
    all_goals go_wp2_with fail
    all_goals go_meet
    all_goals (rw [xor_I]; exact ⟨rfl, rfl⟩)
  obtain ⟨rfl, rfl⟩ := hcut
  obtain ⟨x1, hx1⟩ : ∃ x, Hid (x = rl b 13 ^^^ x0) := ⟨_, Lib.hid rfl⟩
  rw [← hx1.out]
  replace M := (M.set 1 (.int .u64 (I x1))).drew
  clear c0 c1 c2 c3 f
  generalize (W1.setCell ⟨g, 1, none⟩ (.int .u64 (I x1))).drew = W2 at *
  change Two w g r #[.int .u64 (I x0), .int .u64 (I x1), .int .u64 (I c), .int .u64 (I d)] _ _ at M
  have c0 := M.bg.cell (i := 0) rfl; have c1 := M.bg.cell (i := 1) rfl; have c2 := M.bg.cell (i := 2) rfl; have c3 := M.bg.cell (i := 3) rfl; have f := M.bg.melt 0
  go_upto_region 4 with (go_at_call 28; refine (rot32 _ _).mono ?_; rintro e w' ⟨rfl, rfl⟩)
  obtain ⟨x2, hx2⟩ : ∃ x, Hid (x = rl x0 32) := ⟨_, Lib.hid rfl⟩
  rw [← hx2.out]
  replace M := (M.set 0 (.int .u64 (I x2)))
  clear c0 c1 c2 c3 f
  generalize (W2.setCell ⟨g, 0, none⟩ (.int .u64 (I x2))) = W3 at *
  change Two w g r #[.int .u64 (I x2), .int .u64 (I x1), .int .u64 (I c), .int .u64 (I d)] _ _ at M
  have c0 := M.bg.cell (i := 0) rfl; have c1 := M.bg.cell (i := 1) rfl; have c2 := M.bg.cell (i := 2) rfl; have c3 := M.bg.cell (i := 3) rfl; have f := M.bg.melt 2
  go_upto_region 5 with fail
  rw [add_I]
  obtain ⟨x3, hx3⟩ : ∃ x, Hid (x = c + d) := ⟨_, Lib.hid rfl⟩
  rw [← hx3.out]
  replace M := (M.set 2 (.int .u64 (I x3)))
  clear c0 c1 c2 c3 f
  generalize (W3.setCell ⟨g, 2, none⟩ (.int .u64 (I x3))) = W4 at *
  change Two w g r #[.int .u64 (I x2), .int .u64 (I x1), .int .u64 (I x3), .int .u64 (I d)] _ _ at M
  have c0 := M.bg.cell (i := 0) rfl; have c1 := M.bg.cell (i := 1) rfl; have c2 := M.bg.cell (i := 2) rfl; have c3 := M.bg.cell (i := 3) rfl; have f := M.bg.melt 3
  go_cut [31] (fun s wx => s = (.int .u64 (I (rl d 16 ^^^ x3))) ∧ wx = (W4.setCell ⟨g, 3, none⟩ (.int .u64 (I (rl d 16 ^^^ x3)))).drew)
  case first =>
    go_region_with (go_at_call 28; refine (rot16 _ _).mono ?_; rintro e w' ⟨rfl, rfl⟩)
    all_goals go_wp2_with fail
    all_goals go_meet
    all_goals (rw [xor_I]; exact ⟨rfl, rfl⟩)
  obtain ⟨rfl, rfl⟩ := hcut
  obtain ⟨x4, hx4⟩ : ∃ x, Hid (x = rl d 16 ^^^ x3) := ⟨_, Lib.hid rfl⟩
  rw [← hx4.out]
  replace M := (M.set 3 (.int .u64 (I x4))).drew
  clear c0 c1 c2 c3 f
  generalize (W4.setCell ⟨g, 3, none⟩ (.int .u64 (I x4))).drew = W5 at *
  change Two w g r #[.int .u64 (I x2), .int .u64 (I x1), .int .u64 (I x3), .int .u64 (I x4)] _ _ at M
  have c0 := M.bg.cell (i := 0) rfl; have c1 := M.bg.cell (i := 1) rfl; have c2 := M.bg.cell (i := 2) rfl; have c3 := M.bg.cell (i := 3) rfl; have f := M.bg.melt 0
  go_upto_region 7 with fail
  rw [add_I]
  obtain ⟨x5, hx5⟩ : ∃ x, Hid (x = x2 + x4) := ⟨_, Lib.hid rfl⟩
  rw [← hx5.out]
  replace M := (M.set 0 (.int .u64 (I x5)))
  clear c0 c1 c2 c3 f
  generalize (W5.setCell ⟨g, 0, none⟩ (.int .u64 (I x5))) = W6 at *
  change Two w g r #[.int .u64 (I x5), .int .u64 (I x1), .int .u64 (I x3), .int .u64 (I x4)] _ _ at M
  have c0 := M.bg.cell (i := 0) rfl; have c1 := M.bg.cell (i := 1) rfl; have c2 := M.bg.cell (i := 2) rfl; have c3 := M.bg.cell (i := 3) rfl; have f := M.bg.melt 3
  go_cut [44] (fun s wx => s = (.int .u64 (I (rl x4 21 ^^^ x5))) ∧ wx = (W6.setCell ⟨g, 3, none⟩ (.int .u64 (I (rl x4 21 ^^^ x5)))).drew)
  case first =>
    go_region_with (go_at_call 28; refine (rot21 _ _).mono ?_; rintro e w' ⟨rfl, rfl⟩)
    all_goals go_wp2_with fail
    all_goals go_meet
    all_goals (rw [xor_I]; exact ⟨rfl, rfl⟩)
  obtain ⟨rfl, rfl⟩ := hcut
  obtain ⟨x6, hx6⟩ : ∃ x, Hid (x = rl x4 21 ^^^ x5) := ⟨_, Lib.hid rfl⟩
  rw [← hx6.out]
  replace M := (M.set 3 (.int .u64 (I x6))).drew
  clear c0 c1 c2 c3 f
  generalize (W6.setCell ⟨g, 3, none⟩ (.int .u64 (I x6))).drew = W7 at *
  change Two w g r #[.int .u64 (I x5), .int .u64 (I x1), .int .u64 (I x3), .int .u64 (I x6)] _ _ at M
  have c0 := M.bg.cell (i := 0) rfl; have c1 := M.bg.cell (i := 1) rfl; have c2 := M.bg.cell (i := 2) rfl; have c3 := M.bg.cell (i := 3) rfl; have f := M.bg.melt 2
  go_upto_region 9 with fail
  rw [add_I]
  obtain ⟨x7, hx7⟩ : ∃ x, Hid (x = x3 + x1) := ⟨_, Lib.hid rfl⟩
  rw [← hx7.out]
  replace M := (M.set 2 (.int .u64 (I x7)))
  clear c0 c1 c2 c3 f
  generalize (W7.setCell ⟨g, 2, none⟩ (.int .u64 (I x7))) = W8 at *
  change Two w g r #[.int .u64 (I x5), .int .u64 (I x1), .int .u64 (I x7), .int .u64 (I x6)] _ _ at M
  have c0 := M.bg.cell (i := 0) rfl; have c1 := M.bg.cell (i := 1) rfl; have c2 := M.bg.cell (i := 2) rfl; have c3 := M.bg.cell (i := 3) rfl; have f := M.bg.melt 1
  go_cut [57] (fun s wx => s = (.int .u64 (I (rl x1 17 ^^^ x7))) ∧ wx = (W8.setCell ⟨g, 1, none⟩ (.int .u64 (I (rl x1 17 ^^^ x7)))).drew)
  case first =>
    go_region_with (go_at_call 28; refine (rot17 _ _).mono ?_; rintro e w' ⟨rfl, rfl⟩)
    all_goals go_wp2_with fail
    all_goals go_meet
    all_goals (rw [xor_I]; exact ⟨rfl, rfl⟩)
  obtain ⟨rfl, rfl⟩ := hcut
  obtain ⟨x8, hx8⟩ : ∃ x, Hid (x = rl x1 17 ^^^ x7) := ⟨_, Lib.hid rfl⟩
  rw [← hx8.out]
  replace M := (M.set 1 (.int .u64 (I x8))).drew
  clear c0 c1 c2 c3 f
  generalize (W8.setCell ⟨g, 1, none⟩ (.int .u64 (I x8))).drew = W9 at *
  change Two w g r #[.int .u64 (I x5), .int .u64 (I x8), .int .u64 (I x7), .int .u64 (I x6)] _ _ at M
  have c0 := M.bg.cell (i := 0) rfl; have c1 := M.bg.cell (i := 1) rfl; have c2 := M.bg.cell (i := 2) rfl; have c3 := M.bg.cell (i := 3) rfl; have f := M.bg.melt 2
  go_upto_region 11 with (go_at_call 28; refine (rot32 _ _).mono ?_; rintro e w' ⟨rfl, rfl⟩)
  obtain ⟨x9, hx9⟩ : ∃ x, Hid (x = rl x7 32) := ⟨_, Lib.hid rfl⟩
  rw [← hx9.out]
  replace M := (M.set 2 (.int .u64 (I x9)))
  clear c0 c1 c2 c3 f
  generalize (W9.setCell ⟨g, 2, none⟩ (.int .u64 (I x9))) = W10 at *
  change Two w g r #[.int .u64 (I x5), .int .u64 (I x8), .int .u64 (I x9), .int .u64 (I x6)] _ _ at M
  have c0 := M.bg.cell (i := 0) rfl; have c1 := M.bg.cell (i := 1) rfl; have c2 := M.bg.cell (i := 2) rfl; have c3 := M.bg.cell (i := 3) rfl
  have k0 := M.br.cell (i := 0) rfl; have k1 := M.br.cell (i := 1) rfl; have k2 := M.br.cell (i := 2) rfl; have k3 := M.br.cell (i := 3) rfl
  have m0 := M.br.melt 0; have m1 := M.br.melt 1; have m2 := M.br.melt 2; have m3 := M.br.melt 3
  go_wp2_with fail
  clear c0 c1 c2 c3 k0 k1 k2 k3 m0 m1 m2 m3
  replace M := M.put4 (.int .u64 (I x5)) (.int .u64 (I x8)) (.int .u64 (I x9)) (.int .u64 (I x6))
  generalize (((W10.setCell ⟨r, 0, none⟩ (.int .u64 (I x5))).setCell ⟨r, 1, none⟩ (.int .u64 (I x8))).setCell ⟨r, 2, none⟩ (.int .u64 (I x9))).setCell ⟨r, 3, none⟩ (.int .u64 (I x6)) = W11 at *
  have k0 := M.br.cell (i := 0) rfl; have k1 := M.br.cell (i := 1) rfl; have k2 := M.br.cell (i := 2) rfl; have k3 := M.br.cell (i := 3) rfl
  refine bodyPost_ret (v := V4.val ⟨x5, x8, x9, x6⟩) (by simp [results, Try.results25, go_sem, k0, k1, k2, k3]) rfl ⟨?_, M.bl⟩
  obtain rfl := hx9.out; obtain rfl := hx8.out; obtain rfl := hx7.out; obtain rfl := hx6.out; obtain rfl := hx5.out; obtain rfl := hx4.out; obtain rfl := hx3.out; obtain rfl := hx2.out; obtain rfl := hx1.out; obtain rfl := hx0.out
  rfl
end Go.Proofs.Ytiombblclgkigaa
