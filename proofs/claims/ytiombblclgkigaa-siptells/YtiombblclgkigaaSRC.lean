/- The hash, as the document makes it. -/
import Derived.Test.YtiombblclgkigaaSRB
import Derived.Test.YtiombblclgkigaaSLB
import Derived.Test.YtiombblclgkigaaSMB
namespace Go.Proofs.Ytiombblclgkigaa
open Go.RowKit
set_option maxHeartbeats 4000000
set_option maxRecDepth 100000
set_option linter.unusedVariables false
/-- The four numbers behind so many eights, the last one with the length. -/
def st (l : List UInt8) (v : V4) (i : Nat) : V4 := if i ≤ l.length / 8 then eightsN i v l else take8 (eights v l) (lastn (rest l) l.length)
theorem st_zero (l : List UInt8) (v : V4) : st l v 0 = v := by unfold st; rw [if_pos (Nat.zero_le _)]; rfl
theorem st_succ (l : List UInt8) (v : V4) (i : Nat) (h : i ≤ l.length / 8) : st l v (i + 1) = take8 (st l v i) (blk l (8 * i) 8) := by
  unfold st
  rw [if_pos h]
  by_cases h2 : i + 1 ≤ l.length / 8
  · rw [if_pos h2, eightsN_snoc, blk_full (by omega)]
  · obtain rfl : i = l.length / 8 := by omega
    rw [if_neg h2, blk_last]; rfl
theorem st_last (l : List UInt8) (v : V4) : st l v (l.length / 8 + 1) = take8 (eights v l) (lastn (rest l) l.length) := by unfold st; rw [if_neg (by omega)]
theorem One.under {w W : World} {o : Obj} {g : Nat} {cs : Array Value} (h : One (w.alloc o) g cs W) : One w g cs W :=
  ⟨h.bg, Nat.le_trans (by simp) h.hg, below_step ((Below.refl _ _).alloc (Nat.le_refl _) _) h.bl⟩
theorem orByte7 (r : BitVec 64) (b : UInt8) : bits BinOp.or IntKind.u64 (I r) (IntKind.u64.wrap (IntKind.u64.wrap (b.toNat : Int) * 72057594037927936)) = I (r ||| BitVec.ofNat 64 b.toNat <<< (8 * 7)) := by
  have := orByte r b 56
  exact this
theorem orLen (r : BitVec 64) (n : Nat) : bits BinOp.or IntKind.u64 (I r) ((n : Int) % 256 * 72057594037927936) = I (r ||| BitVec.ofNat 64 (UInt8.ofNat (n % 256)).toNat <<< (8 * 7)) := by
  rw [← orByte7]
  congr 1
  have : (UInt8.ofNat (n % 256)).toNat = n % 256 := by rw [UInt8.toNat_ofNat']; omega
  rw [this, IntKind.wrap_u64, IntKind.wrap_u64]
  omega
theorem orZero (r : BitVec 64) (j : Nat) : bits BinOp.or IntKind.u64 (I r) 0 = I (r ||| BitVec.ofNat 64 (0 : UInt8).toNat <<< j) := by
  rw [kI0, or_I]
  congr 2
  apply BitVec.eq_of_toNat_eq
  simp
theorem refSum_any (p q : BitVec 64) (s : ByteArray) (hs : s.size ≤ 100000) (w : World) : Calls Try.prog 10 #[.agg #[.int .u64 (I p), .int .u64 (I q)], .string s] w fun e w' => e = .returned (.int .u64 (I (hash p q (L s)))) ∧ Below w.heap.size w w' := by
  have LL := L_len s
  have E0 : Hid (hash p q (L s) = finish (eights (start p q) (L s)) (lastn (rest (L s)) (L s).length)) := Lib.hid rfl
  rw [E0.out]
  go_enter Try.func10, Try.ntmps10
  go_upto_region 2 with fail
  rw [xor1, xor2, xor3, xor4]
  have M := (One.new (w.alloc (.cells #[.int .u64 (I p), .int .u64 (I q)] 24)) #[.int .u64 (I (p ^^^ 8317987319222330741#64)), .int .u64 (I (q ^^^ 7237128888997146477#64)), .int .u64 (I (p ^^^ 7816392313619706465#64)), .int .u64 (I (q ^^^ 8387220255154660723#64))] 29).under
  rw [World.size_alloc] at M
  generalize (w.alloc (.cells #[.int .u64 (I p), .int .u64 (I q)] 24)).alloc (.cells #[.int .u64 (I (p ^^^ 8317987319222330741#64)), .int .u64 (I (q ^^^ 7237128888997146477#64)), .int .u64 (I (p ^^^ 7816392313619706465#64)), .int .u64 (I (q ^^^ 8387220255154660723#64))] 29) = W at *
  obtain ⟨g, hg⟩ : ∃ g, g = w.heap.size + 1 := ⟨_, rfl⟩
  rw [← hg] at M
  rw [← hg]
  clear hg
  obtain ⟨v0, hv⟩ : ∃ v, Hid (v = start p q) := ⟨_, Lib.hid rfl⟩
  replace M : One w g (st (L s) v0 0).cells W := by rw [st_zero, hv.out]; exact M
  go_wp2_with fail
  go_loopg [6] (s.size / 8 + 1) (fun k s6 wr => ∃ i : Nat, i + k = s.size / 8 + 1 ∧ s6 = .int .i64 ((8 * i : Nat) : Int) ∧ One w g (st (L s) v0 i).cells wr)
  case atStart => exact ⟨0, by omega, rfl, M⟩
  case round =>
    clear M
    obtain ⟨i, hq, rfl, M⟩ := hrel
    have HQ := Lib.hid hq
    obtain ⟨X, hX⟩ : ∃ X, X = gk := ⟨_, rfl⟩
    by_cases lt : i ≤ s.size / 8
    · have hA : 8 * i ≤ s.size := by omega
      have ES := Lib.hid (st_succ (L s) v0 i (by rw [LL]; exact lt))
      have GP : Hid (1 ≤ gk) := by unfold Hid; omega
      have HI := Lib.hid lt
      clear hq lt
      obtain ⟨A, hAA⟩ : ∃ A, A = 8 * i := ⟨_, rfl⟩
      rw [← hAA] at hA ES
      rw [← hAA]
      have HAA := Lib.hid hAA
      clear hAA
      have a1 : (A : Int) ≤ s.size := by omega
      have a0 : (0 : Int) ≤ A := by omega
      go_wp2_with fail
      go_loopg [7, 8] 8 (fun k s7 s8 wx => ∃ j : Nat, j + k = 8 ∧ s8 = .int .i64 (j : Int) ∧ s7 = .int .u64 (I (blk (L s) A j)) ∧ wx = wr)
      case atStart => exact ⟨0, rfl, rfl, by rw [blk_zero, ← kI0], rfl⟩
      case round =>
        obtain ⟨j, hj, rfl, rfl, rfl⟩ := hrel
        have HJ := Lib.hid hj
        by_cases l8 : j < 8
        · have EB := Lib.hid (blk_succ (L s) A j l8)
          have j1 : (j : Int) < 8 := by omega
          have j0 : (0 : Int) ≤ j := by omega
          have GJ : Hid (1 ≤ gk) := by unfold Hid; omega
          have EI := LL
          generalize blk (L s) A j = z at *
          clear hj
          by_cases inn : A + j < s.size
          · have i1 : (A : Int) + j < s.size := by omega
            have i0 : (0 : Int) ≤ (A : Int) + j := by omega
            rw [cb_in (by rw [LL]; exact inn)] at EB
            by_cases h7 : j = 7
            · subst h7
              have i7 : ¬ (s.size : Int) < (A : Int) + 8 := by omega
              go_wp2_with fail
              rw [orByte7]
              go_roundg (gk - 1)
              case measure => have := GJ.out; omega
              case rel =>
                go_light
                exact ⟨8, by have := HJ.out; have := GJ.out; omega, by rfl, by rw [EB.out] <;> rfl, rfl⟩
            · have i7 : ¬ (j : Int) = 7 := by omega
              go_wp2_with fail
              rw [orByte]
              go_roundg (gk - 1)
              case measure => have := GJ.out; omega
              case rel =>
                go_light
                exact ⟨j + 1, by have := HJ.out; have := GJ.out; omega, by go_num, by rw [EB.out] <;> rfl, rfl⟩
          · have i1 : ¬ (A : Int) + j < s.size := by omega
            by_cases h7 : j = 7
            · subst h7
              have i7 : (s.size : Int) < (A : Int) + 8 := by omega
              rw [cb_last (by rw [LL]; exact inn), LL] at EB
              go_wp2_with fail
              rw [orLen]
              go_roundg (gk - 1)
              case measure => have := GJ.out; omega
              case rel =>
                go_light
                exact ⟨8, by have := HJ.out; have := GJ.out; omega, by rfl, by rw [EB.out] <;> rfl, rfl⟩
            · have i7 : ¬ (j : Int) = 7 := by omega
              rw [cb_out (by rw [LL]; exact inn) h7] at EB
              go_wp2_with fail
              rw [orZero z (8 * j)]
              go_roundg (gk - 1)
              case measure => have := GJ.out; omega
              case rel =>
                go_light
                exact ⟨j + 1, by have := HJ.out; have := GJ.out; omega, by go_num, by rw [EB.out] <;> rfl, rfl⟩
        · obtain rfl : j = 8 := by omega
          clear hj l8
          obtain ⟨n, hn⟩ : ∃ n, Hid (n = blk (L s) A 8) := ⟨_, Lib.hid rfl⟩
          rw [← hn.out]
          obtain ⟨⟨x0, x1, x2, x3⟩, hx⟩ : ∃ x, Hid (x = st (L s) v0 i) := ⟨_, Lib.hid rfl⟩
          rw [← hx.out] at M
          change One w g #[.int .u64 (I x0), .int .u64 (I x1), .int .u64 (I x2), .int .u64 (I x3)] wr at M
          obtain ⟨⟨y0, y1, y2, y3⟩, hy⟩ : ∃ x, Hid (x = turn (turn ⟨x0, x1, x2, x3 ^^^ n⟩)) := ⟨_, Lib.hid rfl⟩
          have K2 : Hid (∀ W, Calls Try.prog 18 #[V4.val ⟨x0, x1, x2, x3 ^^^ n⟩, .int .i64 2] W fun e w' => e = .returned (V4.val ⟨y0, y1, y2, y3⟩) ∧ Below W.heap.size W w') := fun W => by
            rw [hy.out]; exact refTurns_any ⟨x0, x1, x2, x3 ^^^ n⟩ 2 (by decide) W
          have ET : Hid (V4.mk (y0 ^^^ n) y1 y2 y3 = st (L s) v0 (i + 1)) := by
            unfold Hid; rw [ES.out, ← hx.out, ← hn.out]; unfold take8; simp only [← hy.out]
          have c3 := M.bg.cell (i := 3) rfl; have f3 := M.bg.melt 3
          go_upto_region 16 with fail
          rw [xor_I]
          replace M := M.set 3 (.int .u64 (I (x3 ^^^ n)))
          generalize wr.setCell ⟨g, 3, none⟩ (.int .u64 (I (x3 ^^^ n))) = W1 at *
          change One w g #[.int .u64 (I x0), .int .u64 (I x1), .int .u64 (I x2), .int .u64 (I (x3 ^^^ n))] W1 at M
          clear c3 f3
          obtain ⟨c0, c1, c2, c3⟩ := M.bg.four
          go_wp2_with fail
          refine (K2.out _).mono ?_
          rintro e W2 ⟨rfl, B⟩
          replace M := M.next B
          clear c0 c1 c2 c3 B
          obtain ⟨c0, c1, c2, c3⟩ := M.bg.four
          have f0 := M.bg.melt 0; have f1 := M.bg.melt 1; have f2 := M.bg.melt 2; have f3 := M.bg.melt 3
          go_upto_region 17 with fail
          replace M := M.put4 (.int .u64 (I y0)) (.int .u64 (I y1)) (.int .u64 (I y2)) (.int .u64 (I y3))
          generalize (((W2.setCell ⟨g, 0, none⟩ (.int .u64 (I y0))).setCell ⟨g, 1, none⟩ (.int .u64 (I y1))).setCell ⟨g, 2, none⟩ (.int .u64 (I y2))).setCell ⟨g, 3, none⟩ (.int .u64 (I y3)) = W3 at *
          clear c0 c1 c2 c3 f0 f1 f2 f3
          obtain ⟨c0, c1, c2, c3⟩ := M.bg.four
          have f0 := M.bg.melt 0
          have a2 : (A : Int) ≤ 100000 := by omega
          go_wp2_with fail
          rw [xor_I]
          go_roundg (X - 1)
          case measure => have := GP.out; omega
          case rel =>
            go_light
            refine ⟨i + 1, by have := HQ.out; have := GP.out; omega, ?_, ?_⟩
            · have := HAA.out; subst this; exact congrArg (Value.int .i64) (by omega)
            · rw [← ET.out]
              exact M.set 0 _
    · have a1 : ¬ ((8 * i : Nat) : Int) ≤ s.size := by omega
      have hi : Hid (i = (L s).length / 8 + 1) := by unfold Hid; rw [LL]; omega
      clear hq lt
      obtain ⟨⟨x0, x1, x2, x3⟩, hx⟩ : ∃ x, Hid (x = st (L s) v0 i) := ⟨_, Lib.hid rfl⟩
      rw [← hx.out] at M
      change One w g #[.int .u64 (I x0), .int .u64 (I x1), .int .u64 (I x2), .int .u64 (I x3)] wr at M
      obtain ⟨⟨y0, y1, y2, y3⟩, hy⟩ : ∃ x, Hid (x = turn (turn (turn (turn ⟨x0, x1, x2 ^^^ 255#64, x3⟩)))) := ⟨_, Lib.hid rfl⟩
      have K2 : Hid (∀ W, Calls Try.prog 18 #[V4.val ⟨x0, x1, x2 ^^^ 255#64, x3⟩, .int .i64 4] W fun e w' => e = .returned (V4.val ⟨y0, y1, y2, y3⟩) ∧ Below W.heap.size W w') := fun W => by
        rw [hy.out]; exact refTurns_any ⟨x0, x1, x2 ^^^ 255#64, x3⟩ 4 (by decide) W
      have c2 := M.bg.cell (i := 2) rfl; have f2 := M.bg.melt 2
      go_upto_region 19 with fail
      rw [xor255]
      replace M := M.set 2 (.int .u64 (I (x2 ^^^ 255#64)))
      generalize wr.setCell ⟨g, 2, none⟩ (.int .u64 (I (x2 ^^^ 255#64))) = W1 at *
      change One w g #[.int .u64 (I x0), .int .u64 (I x1), .int .u64 (I (x2 ^^^ 255#64)), .int .u64 (I x3)] W1 at M
      clear c2 f2
      obtain ⟨c0, c1, c2, c3⟩ := M.bg.four
      go_wp2_with fail
      refine (K2.out _).mono ?_
      rintro e W2 ⟨rfl, B⟩
      replace M := M.next B
      clear c0 c1 c2 c3 B
      obtain ⟨c0, c1, c2, c3⟩ := M.bg.four
      have f0 := M.bg.melt 0; have f1 := M.bg.melt 1; have f2 := M.bg.melt 2; have f3 := M.bg.melt 3
      go_upto_region 20 with fail
      replace M := M.put4 (.int .u64 (I y0)) (.int .u64 (I y1)) (.int .u64 (I y2)) (.int .u64 (I y3))
      generalize (((W2.setCell ⟨g, 0, none⟩ (.int .u64 (I y0))).setCell ⟨g, 1, none⟩ (.int .u64 (I y1))).setCell ⟨g, 2, none⟩ (.int .u64 (I y2))).setCell ⟨g, 3, none⟩ (.int .u64 (I y3)) = W3 at *
      clear c0 c1 c2 c3 f0 f1 f2 f3
      obtain ⟨c0, c1, c2, c3⟩ := M.bg.four
      go_wp2_with fail
      rw [xor_I, xor_I, xor_I]
      go_ret
      refine ⟨?_, M.bl⟩
      have e1 := hx.out
      rw [hi.out, st_last, hv.out] at e1
      unfold finish
      simp only [← e1, ← hy.out]
      rfl
end Go.Proofs.Ytiombblclgkigaa
