/- start, fourOf, array, take of the program. -/
import Derived.Test.YtiombblclgkigaaSB
import Derived.Test.YtiombblclgkigaaSL
namespace Go.Proofs.Ytiombblclgkigaa
open Go.RowKit
set_option maxHeartbeats 2000000
set_option maxRecDepth 100000
theorem start_any (p q : BitVec 64) (w : World) : Calls Try.prog 16 #[.agg #[.int .u64 (I p), .int .u64 (I q)]] w fun e w' => e = .returned (start p q).val ∧ Below w.heap.size w w' := by
  go_enter Try.func16, Try.ntmps16
  go_wp2_with fail
  rw [xor1, xor2, xor3, xor4]
  exact bodyPost_ret (v := (start p q).val) (by simp [results, Try.results16, go_sem, start]) rfl ⟨rfl, below_al ((Below.refl _ _).alloc (Nat.le_refl _) _) _⟩
theorem fourOf_any (v : V4) (w : World) : Calls Try.prog 21 #[v.val] w fun e w' => e = .returned v.val ∧ Below w.heap.size w w' := by
  obtain ⟨a, b, c, d⟩ := v
  go_enter Try.func21, Try.ntmps21
  go_wp2_with fail
  exact bodyPost_ret (v := V4.val ⟨a, b, c, d⟩) (by simp [results, Try.results21, go_sem]) rfl ⟨rfl, below_al ((Below.refl _ _).alloc (Nat.le_refl _) _) _⟩
theorem array_any (v : V4) (w : World) : Calls Try.prog 19 #[v.val] w fun e w' => e = .returned v.val ∧ Below w.heap.size w w' := by
  obtain ⟨a, b, c, d⟩ := v
  go_enter Try.func19, Try.ntmps19
  go_wp2_with fail
  exact bodyPost_ret (v := V4.val ⟨a, b, c, d⟩) (by simp [results, Try.results19, go_sem]) rfl ⟨rfl, below_al ((Below.refl _ _).alloc (Nat.le_refl _) _) _⟩
theorem take_any (v : V4) (n : BitVec 64) (w : World) : Calls Try.prog 23 #[v.val, .int .u64 (I n)] w fun e w' => e = .returned (take8 v n).val ∧ Below w.heap.size w w' := by
  obtain ⟨a, b, c, d⟩ := v
  go_enter Try.func23, Try.ntmps23
  go_upto_region 2 with fail
  rw [xor_I]
  have M := Two.new w (V4.cells ⟨a, b, c, d ^^^ n⟩) #[.int .u64 0, .int .u64 0, .int .u64 0, .int .u64 0] 41 41
  generalize (w.alloc (.cells #[.int .u64 (I a), .int .u64 (I b), .int .u64 (I c), .int .u64 (I (d ^^^ n))] 41)).alloc (.cells #[.int .u64 0, .int .u64 0, .int .u64 0, .int .u64 0] 41) = W0 at *
  obtain ⟨g, hg⟩ : ∃ g, g = w.heap.size := ⟨_, rfl⟩
  obtain ⟨r, hr⟩ : ∃ r, r = g + 1 := ⟨_, rfl⟩
  rw [← hg, ← hr] at M
  rw [← hg, ← hr]
  clear hg hr
  have c0 := M.bg.cell (i := 0) rfl; have c1 := M.bg.cell (i := 1) rfl; have c2 := M.bg.cell (i := 2) rfl; have c3 := M.bg.cell (i := 3) rfl
  go_wp2_with fail
  refine (turn_any ⟨a, b, c, d ^^^ n⟩ _).mono ?_
  rintro e W1 ⟨rfl, B1⟩
  replace M := M.next B1
  clear c0 c1 c2 c3 B1
  obtain ⟨u, hu⟩ : ∃ u, Hid (u = turn ⟨a, b, c, d ^^^ n⟩) := ⟨_, Lib.hid rfl⟩
  rw [← hu.out]
  go_wp2_with fail
  refine (turn_any u _).mono ?_
  rintro e W2 ⟨rfl, B1⟩
  replace M := M.next B1
  clear B1
  obtain ⟨⟨x0, x1, x2, x3⟩, hx⟩ : ∃ x, Hid (x = turn u) := ⟨_, Lib.hid rfl⟩
  rw [← hx.out]
  have c0 := M.bg.cell (i := 0) rfl; have c1 := M.bg.cell (i := 1) rfl; have c2 := M.bg.cell (i := 2) rfl; have c3 := M.bg.cell (i := 3) rfl
  have m0 := M.bg.melt 0; have m1 := M.bg.melt 1; have m2 := M.bg.melt 2; have m3 := M.bg.melt 3
  go_upto_region 3 with fail
  replace M := (M.swap.put4 (.int .u64 (I x0)) (.int .u64 (I x1)) (.int .u64 (I x2)) (.int .u64 (I x3))).swap
  generalize (((W2.setCell ⟨g, 0, none⟩ (.int .u64 (I x0))).setCell ⟨g, 1, none⟩ (.int .u64 (I x1))).setCell ⟨g, 2, none⟩ (.int .u64 (I x2))).setCell ⟨g, 3, none⟩ (.int .u64 (I x3)) = W3 at *
  clear c0 c1 c2 c3 m0 m1 m2 m3
  have c0 := M.bg.cell (i := 0) rfl; have m0 := M.bg.melt 0
  go_upto_region 4 with fail
  rw [xor_I]
  replace M := M.set 0 (.int .u64 (I (x0 ^^^ n)))
  generalize W3.setCell ⟨g, 0, none⟩ (.int .u64 (I (x0 ^^^ n))) = W4 at *
  clear c0 m0
  change Two w g r #[.int .u64 (I (x0 ^^^ n)), .int .u64 (I x1), .int .u64 (I x2), .int .u64 (I x3)] _ _ at M
  have c0 := M.bg.cell (i := 0) rfl; have c1 := M.bg.cell (i := 1) rfl; have c2 := M.bg.cell (i := 2) rfl; have c3 := M.bg.cell (i := 3) rfl
  have k0 := M.br.cell (i := 0) rfl; have k1 := M.br.cell (i := 1) rfl; have k2 := M.br.cell (i := 2) rfl; have k3 := M.br.cell (i := 3) rfl
  have m0 := M.br.melt 0; have m1 := M.br.melt 1; have m2 := M.br.melt 2; have m3 := M.br.melt 3
  go_wp2_with fail
  clear c0 c1 c2 c3 k0 k1 k2 k3 m0 m1 m2 m3
  replace M := M.put4 (.int .u64 (I (x0 ^^^ n))) (.int .u64 (I x1)) (.int .u64 (I x2)) (.int .u64 (I x3))
  generalize (((W4.setCell ⟨r, 0, none⟩ (.int .u64 (I (x0 ^^^ n)))).setCell ⟨r, 1, none⟩ (.int .u64 (I x1))).setCell ⟨r, 2, none⟩ (.int .u64 (I x2))).setCell ⟨r, 3, none⟩ (.int .u64 (I x3)) = W5 at *
  have k0 := M.br.cell (i := 0) rfl; have k1 := M.br.cell (i := 1) rfl; have k2 := M.br.cell (i := 2) rfl; have k3 := M.br.cell (i := 3) rfl
  refine bodyPost_ret (v := V4.val ⟨x0 ^^^ n, x1, x2, x3⟩) (by simp [results, Try.results23, go_sem, k0, k1, k2, k3]) rfl ⟨?_, M.bl⟩
  have h := hx.out
  rw [hu.out] at h
  unfold take8
  simp only [← h]
end Go.Proofs.Ytiombblclgkigaa
