/- finish, Sum of the program. -/
import Derived.Test.YtiombblclgkigaaSE
namespace Go.Proofs.Ytiombblclgkigaa
open Go.RowKit
set_option maxHeartbeats 4000000
set_option maxRecDepth 100000
def turnN : Nat → V4 → V4
  | 0, v => v
  | n + 1, v => turn (turnN n v)
theorem lenShl (n : Nat) (h : n < 9223372036854775808) : IntKind.u64.wrap (IntKind.u64.wrap (n : Int) * 72057594037927936) = I (BitVec.ofNat 64 n <<< 56) := by
  rw [← shl_I, ← kI n (by omega), IntKind.wrap_u64 (n : Int), show (n : Int) % 18446744073709551616 = n by omega]; rfl
theorem finish_any (v : V4) (t : ByteArray) (ht : t.size ≤ 8) (n : Nat) (hn : n < 9223372036854775808) (w : World) : Calls Try.prog 17 #[v.val, .string t, .int .i64 (n : Int)] w fun e w' => e = .returned (.int .u64 (I (finish v (lastn (L t) n)))) ∧ Below w.heap.size w w' := by
  obtain ⟨x0, x1, x2, x3⟩ := v
  obtain ⟨m, hm⟩ : ∃ m, Hid (m = num (L t)) := ⟨_, Lib.hid rfl⟩
  have KN : Hid (∀ W, Calls Try.prog 24 #[.string t] W fun e w' => e = .returned (.int .u64 (I m)) ∧ W = w') := fun W => by rw [hm.out]; exact number_any _ ht W
  obtain ⟨k, hk⟩ : ∃ k, Hid (k = lastn (L t) n) := ⟨_, Lib.hid rfl⟩
  obtain ⟨⟨y0, y1, y2, y3⟩, hy⟩ : ∃ x, Hid (x = take8 ⟨x0, x1, x2, x3⟩ k) := ⟨_, Lib.hid rfl⟩
  have KT : Hid (∀ W, Calls Try.prog 23 #[V4.val ⟨x0, x1, x2, x3⟩, .int .u64 (I k)] W fun e w' => e = .returned (V4.val ⟨y0, y1, y2, y3⟩) ∧ Below W.heap.size W w') := fun W => by rw [hy.out]; exact take_any _ _ W
  have EK : Hid (bits BinOp.or IntKind.u64 (I m) (IntKind.u64.wrap (IntKind.u64.wrap (n : Int) * 72057594037927936)) = I k) := by
    unfold Hid; rw [lenShl n hn, or_I, hk.out, hm.out]; rfl
  clear ht
  go_enter Try.func17, Try.ntmps17
  go_upto_region 1 with fail
  have M := One.new w (V4.cells ⟨x0, x1, x2, x3⟩) 41
  generalize w.alloc (.cells #[.int .u64 (I x0), .int .u64 (I x1), .int .u64 (I x2), .int .u64 (I x3)] 41) = W0 at *
  obtain ⟨g, hg⟩ : ∃ g, g = w.heap.size := ⟨_, rfl⟩
  rw [← hg] at M
  rw [← hg]
  clear hg
  have c0 := M.bg.cell (i := 0) rfl; have c1 := M.bg.cell (i := 1) rfl; have c2 := M.bg.cell (i := 2) rfl; have c3 := M.bg.cell (i := 3) rfl
  go_cut [14] (fun s14 wx => One w g (V4.cells ⟨y0, y1, y2, y3⟩) wx)
  case first =>
    go_region_with (first
      | (go_at_call 24; refine (KN.out _).mono ?_; rintro e w' ⟨rfl, rfl⟩)
      | (go_at_call 23; rw [EK.out]; refine (KT.out _).mono ?_; rintro e z ⟨rfl, B⟩; have M2 := M.drew.next B; have d0 := M2.bg.cell (i := 0) rfl; have d1 := M2.bg.cell (i := 1) rfl; have d2 := M2.bg.cell (i := 2) rfl; have d3 := M2.bg.cell (i := 3) rfl; have n0 := M2.bg.melt 0; have n1 := M2.bg.melt 1; have n2 := M2.bg.melt 2; have n3 := M2.bg.melt 3))
    all_goals go_wp2_with fail
    all_goals go_meet
    all_goals exact M2.put4 _ _ _ _
  clear c0 c1 c2 c3 M
  rename One _ _ _ _ => M
  have c2 := M.bg.cell (i := 2) rfl
  have f2 := M.bg.melt 2
  go_upto_region 3 with fail
  rw [xor255]
  replace M := M.set 2 (.int .u64 (I (y2 ^^^ 255#64)))
  generalize wc.setCell ⟨g, 2, none⟩ (.int .u64 (I (y2 ^^^ 255#64))) = W1 at *
  obtain ⟨v0, hv⟩ : ∃ v, Hid (v = V4.mk y0 y1 (y2 ^^^ 255#64) y3) := ⟨_, Lib.hid rfl⟩
  change One w g (V4.cells ⟨y0, y1, y2 ^^^ 255#64, y3⟩) W1 at M
  rw [← hv.out] at M
  clear c2 f2
  go_wp2_with fail
  go_loopg [19] 4 (fun q s19 wr => ∃ i : Nat, i + q = 4 ∧ s19 = .int .i64 (i : Int) ∧ One w g (turnN i v0).cells wr)
  case atStart => exact ⟨0, rfl, rfl, M⟩
  case round =>
    clear M
    obtain ⟨i, hq, rfl, M⟩ := hrel
    have HQ := Lib.hid hq
    obtain ⟨⟨z0, z1, z2, z3⟩, hz⟩ : ∃ x, Hid (x = turnN i v0) := ⟨_, Lib.hid rfl⟩
    rw [← hz.out] at M
    have c0 := M.bg.cell (i := 0) rfl; have c1 := M.bg.cell (i := 1) rfl; have c2 := M.bg.cell (i := 2) rfl; have c3 := M.bg.cell (i := 3) rfl
    by_cases lt : i < 4
    · have i1 : (i : Int) < 4 := by omega
      have i0 : (0 : Int) ≤ i := by omega
      clear hq
      go_wp2_with fail
      refine (turn_any ⟨z0, z1, z2, z3⟩ _).mono ?_
      rintro e W2 ⟨rfl, B⟩
      replace M := M.next B
      clear c0 c1 c2 c3 B
      obtain ⟨⟨u0, u1, u2, u3⟩, hu⟩ : ∃ x, Hid (x = turn ⟨z0, z1, z2, z3⟩) := ⟨_, Lib.hid rfl⟩
      rw [← hu.out]
      have c0 := M.bg.cell (i := 0) rfl; have c1 := M.bg.cell (i := 1) rfl; have c2 := M.bg.cell (i := 2) rfl; have c3 := M.bg.cell (i := 3) rfl
      have f0 := M.bg.melt 0; have f1 := M.bg.melt 1; have f2 := M.bg.melt 2; have f3 := M.bg.melt 3
      go_wp2_with fail
      go_roundg (gk - 1)
      case measure => have := HQ.out; omega
      case rel =>
        go_light
        refine ⟨i + 1, by have := HQ.out; omega, by go_num, ?_⟩
        rw [turnN, ← hz.out, ← hu.out]
        exact M.put4 _ _ _ _
    · obtain rfl : i = 4 := by omega
      clear hq
      go_wp2_with fail
      go_ret
      refine ⟨?_, M.bl⟩
      rw [xor_I, xor_I, xor_I]
      unfold finish
      rw [← hk.out]
      simp only [← hy.out, ← hv.out]
      have := hz.out
      simp only [turnN] at this
      simp only [← this]
      rfl
end Go.Proofs.Ytiombblclgkigaa
