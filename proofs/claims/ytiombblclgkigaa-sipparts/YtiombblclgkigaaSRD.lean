/- The four numbers behind so many eights, as the document makes them. -/
import Derived.Test.YtiombblclgkigaaSRB
import Derived.Test.YtiombblclgkigaaSLB
import Derived.Test.YtiombblclgkigaaSMB
namespace Go.Proofs.Ytiombblclgkigaa
open Go.RowKit
set_option maxHeartbeats 4000000
set_option maxRecDepth 100000
set_option linter.unusedVariables false
theorem Two.under {w W : World} {o : Obj} {g r : Nat} {cs ds : Array Value} (h : Two (w.alloc o) g r cs ds W) : Two w g r cs ds W :=
  ⟨h.bg, h.br, h.ne, Nat.le_trans (by simp) h.hg, Nat.le_trans (by simp) h.hr, below_step ((Below.refl _ _).alloc (Nat.le_refl _) _) h.bl⟩
theorem behind_any (p q : BitVec 64) (s : ByteArray) (hs : s.size ≤ 100000) (m : Nat) (hm : 8 * m ≤ s.size) (w : World) : Calls Try.prog 13 #[.agg #[.int .u64 (I p), .int .u64 (I q)], .string s, .int .i64 (m : Int)] w fun e w' => e = .returned (eightsN m (start p q) (L s)).val ∧ Below w.heap.size w w' := by
  have LL := L_len s
  go_enter Try.func13, Try.ntmps13
  go_upto_region 2 with fail
  rw [xor1, xor2, xor3, xor4]
  have M := ((Two.new (w.alloc (.cells #[.int .u64 (I p), .int .u64 (I q)] 24)) #[.int .u64 0, .int .u64 0, .int .u64 0, .int .u64 0] #[.int .u64 (I (p ^^^ 8317987319222330741#64)), .int .u64 (I (q ^^^ 7237128888997146477#64)), .int .u64 (I (p ^^^ 7816392313619706465#64)), .int .u64 (I (q ^^^ 8387220255154660723#64))] 29 29).swap).under
  rw [World.size_alloc] at M
  generalize ((w.alloc (.cells #[.int .u64 (I p), .int .u64 (I q)] 24)).alloc (.cells #[.int .u64 0, .int .u64 0, .int .u64 0, .int .u64 0] 29)).alloc (.cells #[.int .u64 (I (p ^^^ 8317987319222330741#64)), .int .u64 (I (q ^^^ 7237128888997146477#64)), .int .u64 (I (p ^^^ 7816392313619706465#64)), .int .u64 (I (q ^^^ 8387220255154660723#64))] 29) = W at *
  obtain ⟨r, hr⟩ : ∃ r, r = w.heap.size + 1 := ⟨_, rfl⟩
  rw [← hr] at M
  obtain ⟨g, hg⟩ : ∃ g, g = r + 1 := ⟨_, rfl⟩
  rw [← hg] at M
  rw [← hr, ← hg]
  clear hr hg
  obtain ⟨v0, hv⟩ : ∃ v, Hid (v = start p q) := ⟨_, Lib.hid rfl⟩
  replace M : Two w g r (eightsN 0 v0 (L s)).cells #[.int .u64 0, .int .u64 0, .int .u64 0, .int .u64 0] W := by rw [hv.out]; exact M
  go_wp2_with fail
  go_loopg [8] m (fun k s8 wr => ∃ i : Nat, i + k = m ∧ s8 = .int .i64 (i : Int) ∧ Two w g r (eightsN i v0 (L s)).cells #[.int .u64 0, .int .u64 0, .int .u64 0, .int .u64 0] wr)
  case atStart => exact ⟨0, by omega, rfl, M⟩
  case round =>
    clear M
    obtain ⟨i, hq, rfl, M⟩ := hrel
    have HQ := Lib.hid hq
    obtain ⟨X, hX⟩ : ∃ X, X = gk := ⟨_, rfl⟩
    obtain ⟨⟨x0, x1, x2, x3⟩, hx⟩ : ∃ x, Hid (x = eightsN i v0 (L s)) := ⟨_, Lib.hid rfl⟩
    rw [← hx.out] at M
    change Two w g r #[.int .u64 (I x0), .int .u64 (I x1), .int .u64 (I x2), .int .u64 (I x3)] _ wr at M
    by_cases lt : i < m
    · have i1 : (i : Int) < m := by omega
      have i0 : (0 : Int) ≤ i := by omega
      have ib : (i : Int) ≤ 100000 := by omega
      have GP : Hid (1 ≤ gk) := by unfold Hid; omega
      have hA : 8 * i + 8 ≤ s.size := by omega
      obtain ⟨B, hB⟩ : ∃ B, Hid (B = ((L s).drop (8 * i)).take 8) := ⟨_, Lib.hid rfl⟩
      have BL : B.length = 8 := by rw [hB.out, List.length_take, List.length_drop, LL]; omega
      have ES := Lib.hid (eightsN_snoc i v0 (L s))
      rw [← hx.out, ← hB.out] at ES
      clear hq lt
      go_wp2_with fail
      go_loopg [9, 10] 8 (fun k s9 s10 wx => k ≤ 8 ∧ s10 = .int .i64 ((k : Int) - 1) ∧ s9 = .int .u64 (I (num (B.drop k))) ∧ wx = wr)
      case atStart => exact ⟨Nat.le_refl _, rfl, by rw [List.drop_of_length_le (by omega), num_nil, ← kI0], rfl⟩
      case round =>
        obtain ⟨k8, rfl, rfl, rfl⟩ := hrel
        by_cases k0 : gk = 0
        · subst k0
          rw [List.drop_zero]
          obtain ⟨n, hn⟩ : ∃ n, Hid (n = num B) := ⟨_, Lib.hid rfl⟩
          rw [← hn.out]
          rw [← hn.out] at ES
          obtain ⟨⟨y0, y1, y2, y3⟩, hy⟩ : ∃ x, Hid (x = turn (turn ⟨x0, x1, x2, x3 ^^^ n⟩)) := ⟨_, Lib.hid rfl⟩
          have K2 : Hid (∀ W, Calls Try.prog 18 #[V4.val ⟨x0, x1, x2, x3 ^^^ n⟩, .int .i64 2] W fun e w' => e = .returned (V4.val ⟨y0, y1, y2, y3⟩) ∧ Below W.heap.size W w') := fun W => by
            rw [hy.out]; exact refTurns_any ⟨x0, x1, x2, x3 ^^^ n⟩ 2 (by decide) W
          have ET : Hid (V4.mk (y0 ^^^ n) y1 y2 y3 = eightsN (i + 1) v0 (L s)) := by
            unfold Hid; rw [ES.out]; unfold take8; simp only [← hy.out]
          have c3 := M.bg.cell (i := 3) rfl; have f3 := M.bg.melt 3
          go_upto_region 11 with fail
          rw [xor_I]
          replace M := M.set 3 (.int .u64 (I (x3 ^^^ n)))
          generalize wr.setCell ⟨g, 3, none⟩ (.int .u64 (I (x3 ^^^ n))) = W1 at *
          change Two w g r #[.int .u64 (I x0), .int .u64 (I x1), .int .u64 (I x2), .int .u64 (I (x3 ^^^ n))] _ W1 at M
          clear c3 f3
          obtain ⟨c0, c1, c2, c3⟩ := M.bg.four
          go_wp2_with fail
          refine (K2.out _).mono ?_
          rintro e W2 ⟨rfl, BB⟩
          replace M := M.next BB
          clear c0 c1 c2 c3 BB
          obtain ⟨c0, c1, c2, c3⟩ := M.bg.four
          have f0 := M.bg.melt 0; have f1 := M.bg.melt 1; have f2 := M.bg.melt 2; have f3 := M.bg.melt 3
          go_upto_region 12 with fail
          replace M := (M.swap.put4 (.int .u64 (I y0)) (.int .u64 (I y1)) (.int .u64 (I y2)) (.int .u64 (I y3))).swap
          generalize (((W2.setCell ⟨g, 0, none⟩ (.int .u64 (I y0))).setCell ⟨g, 1, none⟩ (.int .u64 (I y1))).setCell ⟨g, 2, none⟩ (.int .u64 (I y2))).setCell ⟨g, 3, none⟩ (.int .u64 (I y3)) = W3 at *
          clear c0 c1 c2 c3 f0 f1 f2 f3
          obtain ⟨c0, c1, c2, c3⟩ := M.bg.four
          have f0 := M.bg.melt 0
          go_wp2_with fail
          rw [xor_I]
          go_roundg (X - 1)
          case measure => have := GP.out; omega
          case rel =>
            go_light
            refine ⟨i + 1, by have := HQ.out; have := GP.out; omega, by go_num, ?_⟩
            rw [← ET.out]
            exact M.set 0 _
        · obtain ⟨c, hc⟩ : ∃ c, gk = c + 1 := ⟨gk - 1, by omega⟩
          have e1 : ((gk : Nat) : Int) - 1 = (c : Int) := by omega
          rw [e1, hc]
          have cl : c < B.length := by omega
          have EB : Hid (num (B.drop c) = num (B[c] :: B.drop (c + 1))) := by unfold Hid; rw [List.drop_eq_getElem_cons cl]
          have j1 : (8 : Int) * i + c < s.size := by omega
          have j0 : (0 : Int) ≤ c := by omega
          have j2 : (0 : Int) ≤ (8 : Int) * i + c := by omega
          have j3 : (c : Int) < 8 := by omega
          have EC : Hid (B[c] = s[8 * i + c]) := by
            unfold Hid
            have : B[c]? = some s[8 * i + c] := by
              rw [hB.out, List.getElem?_take, if_pos (by omega), List.getElem?_drop, List.getElem?_eq_getElem (by rw [LL]; omega)]; rfl
            rw [List.getElem?_eq_getElem cl] at this
            exact Option.some.inj this
          rw [EC.out] at EB
          have dl : (B.drop (c + 1)).length < 8 := by rw [List.length_drop]; omega
          have EZ := Lib.hid (back_I s[8 * i + c] dl)
          rw [← EB.out] at EZ
          generalize num (B.drop (c + 1)) = z at *
          have HC := Lib.hid hc
          clear hc e1 k0 dl EC EB cl
          go_wp2_with fail
          rw [EZ.out]
          go_roundg c
          case measure => have := HC.out; omega
          case rel =>
            go_light
            exact ⟨by have := HC.out; omega, rfl, rfl, rfl⟩
    · have i1 : ¬ (i : Int) < m := by omega
      obtain rfl : i = m := by omega
      clear hq lt
      have c0 := M.bg.cell (i := 0) rfl; have c1 := M.bg.cell (i := 1) rfl; have c2 := M.bg.cell (i := 2) rfl; have c3 := M.bg.cell (i := 3) rfl
      have k0 := M.br.cell (i := 0) rfl; have k1 := M.br.cell (i := 1) rfl; have k2 := M.br.cell (i := 2) rfl; have k3 := M.br.cell (i := 3) rfl
      have m0 := M.br.melt 0; have m1 := M.br.melt 1; have m2 := M.br.melt 2; have m3 := M.br.melt 3
      go_wp2_with fail
      clear c0 c1 c2 c3 k0 k1 k2 k3 m0 m1 m2 m3
      replace M := M.put4 (.int .u64 (I x0)) (.int .u64 (I x1)) (.int .u64 (I x2)) (.int .u64 (I x3))
      generalize (((wr.setCell ⟨r, 0, none⟩ (.int .u64 (I x0))).setCell ⟨r, 1, none⟩ (.int .u64 (I x1))).setCell ⟨r, 2, none⟩ (.int .u64 (I x2))).setCell ⟨r, 3, none⟩ (.int .u64 (I x3)) = W11 at *
      have k0 := M.br.cell (i := 0) rfl; have k1 := M.br.cell (i := 1) rfl; have k2 := M.br.cell (i := 2) rfl; have k3 := M.br.cell (i := 3) rfl
      refine bodyPost_ret (v := V4.val ⟨x0, x1, x2, x3⟩) (by simp [results, Try.results13, go_sem, k0, k1, k2, k3]) rfl ⟨?_, M.bl⟩
      rw [hx.out, hv.out]
end Go.Proofs.Ytiombblclgkigaa
