/- takeEights of the program. -/
import Derived.Test.YtiombblclgkigaaSC
import Derived.Test.YtiombblclgkigaaSD
namespace Go.Proofs.Ytiombblclgkigaa
open Go.RowKit
set_option maxHeartbeats 4000000
set_option maxRecDepth 100000
/-- What is in the loop of takeEights. -/
structure Eig (w : World) (g r : Nat) (v : V4) (l : List UInt8) (q : Nat) (s1 : Value) (wr : World) : Prop where
  ex : ∃ (i : Nat) (t : ByteArray), i + q = l.length / 8 ∧ s1 = .string t ∧ L t = l.drop (8 * i) ∧ Two w g r (eightsN i v l).cells #[.int .u64 0, .int .u64 0, .int .u64 0, .int .u64 0] wr
theorem takeEights_any (v : V4) (s : ByteArray) (w : World) : Calls Try.prog 15 #[v.val, .string s] w fun e w' => e = .returned (.tuple #[(eights v (L s)).val, .string (bs (rest (L s)))]) ∧ Below w.heap.size w w' := by
  have LL := L_len s
  obtain ⟨a, b, c, d⟩ := v
  go_enter Try.func15, Try.ntmps15
  go_upto_region 1 with fail
  have M := Two.new w (V4.cells ⟨a, b, c, d⟩) #[.int .u64 0, .int .u64 0, .int .u64 0, .int .u64 0] 41 41
  generalize (w.alloc (.cells #[.int .u64 (I a), .int .u64 (I b), .int .u64 (I c), .int .u64 (I d)] 41)).alloc (.cells #[.int .u64 0, .int .u64 0, .int .u64 0, .int .u64 0] 41) = W0 at *
  obtain ⟨g, hg⟩ : ∃ g, g = w.heap.size := ⟨_, rfl⟩
  obtain ⟨r, hr⟩ : ∃ r, r = g + 1 := ⟨_, rfl⟩
  rw [← hg, ← hr] at M
  rw [← hg, ← hr]
  clear hg hr
  obtain ⟨v, hv⟩ : ∃ v, Hid (v = V4.mk a b c d) := ⟨_, Lib.hid rfl⟩
  rw [← hv.out] at M
  have S0 : Eig w g r v (L s) ((L s).length / 8) (.string s) W0 := ⟨0, s, by omega, rfl, by simp, M⟩
  clear M
  go_loopg [1] ((L s).length / 8) (fun q s1 wr => Eig w g r v (L s) q s1 wr)
  case atStart => exact S0
  case round =>
    clear S0
    obtain ⟨i, t, hq, rfl, ht, M⟩ := hrel.ex
    clear hrel
    have tl := congrArg List.length ht
    rw [L_len, List.length_drop, LL] at tl
    have HQ := Lib.hid hq
    rw [LL] at hq
    obtain ⟨⟨x0, x1, x2, x3⟩, hx⟩ : ∃ x, Hid (x = eightsN i v (L s)) := ⟨_, Lib.hid rfl⟩
    rw [← hx.out] at M
    have c0 := M.bg.cell (i := 0) rfl; have c1 := M.bg.cell (i := 1) rfl; have c2 := M.bg.cell (i := 2) rfl; have c3 := M.bg.cell (i := 3) rfl
    by_cases lt : 8 ≤ t.size
    · have i1 : (8 : Int) ≤ t.size := by omega
      have i2 : ¬ (t.size : Int) < 8 := by omega
      have z1 : (t.extract 0 8).size ≤ 8 := by rw [← L_len, L_take, List.length_take]; omega
      have e1 := L_take t 8
      have e2 := L_drop t 8
      obtain ⟨m, hm⟩ : ∃ m, Hid (m = num (L (t.extract 0 8))) := ⟨_, Lib.hid rfl⟩
      obtain ⟨⟨y0, y1, y2, y3⟩, hy⟩ : ∃ x, Hid (x = take8 ⟨x0, x1, x2, x3⟩ m) := ⟨_, Lib.hid rfl⟩
      have KN : Hid (∀ W, Calls Try.prog 24 #[.string (t.extract 0 8)] W fun e w' => e = .returned (.int .u64 (I m)) ∧ W = w') := fun W => by rw [hm.out]; exact number_any _ z1 W
      have KT : Hid (∀ W, Calls Try.prog 23 #[V4.val ⟨x0, x1, x2, x3⟩, .int .u64 (I m)] W fun e w' => e = .returned (V4.val ⟨y0, y1, y2, y3⟩) ∧ Below W.heap.size W w') := fun W => by rw [hy.out]; exact take_any _ _ W
      have E : Hid (⟨y0, y1, y2, y3⟩ = eightsN (i + 1) v (L s)) := by
        unfold Hid; rw [eightsN_snoc, ← hx.out, ← ht, ← e1, ← hm.out]; exact hy.out
      have HT : Hid (L (t.extract 8 t.size) = (L s).drop (8 * (i + 1))) := by unfold Hid; rw [e2, ht, List.drop_drop]; rfl
      have GP : Hid (1 ≤ gk) := by unfold Hid; omega
      clear hq tl z1 e1 e2 ht
      go_upto_region 2 with fail
      go_cut [13] (fun s13 wx => Two w g r (V4.cells ⟨y0, y1, y2, y3⟩) #[.int .u64 0, .int .u64 0, .int .u64 0, .int .u64 0] wx)
      case first =>
        go_region_with (first
          | (go_at_call 24; refine (KN.out _).mono ?_; rintro e w' ⟨rfl, rfl⟩)
          | (go_at_call 23; refine (KT.out _).mono ?_; rintro e z ⟨rfl, B⟩; have M2 := M.drew.next B; have d0 := M2.bg.cell (i := 0) rfl; have d1 := M2.bg.cell (i := 1) rfl; have d2 := M2.bg.cell (i := 2) rfl; have d3 := M2.bg.cell (i := 3) rfl; have n0 := M2.bg.melt 0; have n1 := M2.bg.melt 1; have n2 := M2.bg.melt 2; have n3 := M2.bg.melt 3))
        all_goals go_wp2_with fail
        all_goals go_meet
        all_goals exact (M2.swap.put4 _ _ _ _).swap
      clear c0 c1 c2 c3 M
      go_wp2_with fail
      go_roundg (gk - 1)
      case measure => have := GP.out; omega
      case rel =>
        go_light
        exact ⟨i + 1, _, by have := HQ.out; have := GP.out; omega, rfl, HT.out, by rw [← E.out]; exact hcut⟩
    · have i1 : ¬ (8 : Int) ≤ t.size := by omega
      have k0 := M.br.cell (i := 0) rfl; have k1 := M.br.cell (i := 1) rfl; have k2 := M.br.cell (i := 2) rfl; have k3 := M.br.cell (i := 3) rfl
      have m0 := M.br.melt 0; have m1 := M.br.melt 1; have m2 := M.br.melt 2; have m3 := M.br.melt 3
      have hi : Hid (i = (L s).length / 8) := by unfold Hid; omega
      have HT := Lib.hid ht
      clear hq tl ht
      go_wp2_with fail
      clear c0 c1 c2 c3 k0 k1 k2 k3 m0 m1 m2 m3
      replace M := M.put4 (.int .u64 (I x0)) (.int .u64 (I x1)) (.int .u64 (I x2)) (.int .u64 (I x3))
      generalize (((wr.setCell ⟨r, 0, none⟩ (.int .u64 (I x0))).setCell ⟨r, 1, none⟩ (.int .u64 (I x1))).setCell ⟨r, 2, none⟩ (.int .u64 (I x2))).setCell ⟨r, 3, none⟩ (.int .u64 (I x3)) = W5 at *
      have k0 := M.br.cell (i := 0) rfl; have k1 := M.br.cell (i := 1) rfl; have k2 := M.br.cell (i := 2) rfl; have k3 := M.br.cell (i := 3) rfl
      refine bodyPost_ret (v := .tuple #[V4.val ⟨x0, x1, x2, x3⟩, .string t]) (by simp [results, Try.results15, go_sem, k0, k1, k2, k3]) rfl ⟨?_, M.bl⟩
      unfold eights rest
      rw [← hi.out, ← hv.out, ← hx.out, ← HT.out, bs_L]
end Go.Proofs.Ytiombblclgkigaa
