/- The walk of Below: its loop. -/
import Derived.Test.YthhphbaimpcjfaaDB
namespace Go.Proofs.Ythhphbaimpcjfaa
open Go.RowKit
set_option linter.unusedVariables false
set_option linter.unusedSimpArgs false
set_option maxHeartbeats 2000000
set_option maxRecDepth 100000
theorem u64_and_on (x k : Nat) (hx : x < 18446744073709551616) (hk : k ≤ 64) : bits .and .u64 (x : Int) (on k : Int) = ((x % 2 ^ k : Nat) : Int) := by
  have e64 : (2 : Nat) ^ 64 = 18446744073709551616 := by decide
  have l := on_lt hk
  rw [e64] at l
  have hb : x &&& on k < 2 ^ 64 := Nat.and_lt_two_pow _ (by rw [e64]; exact l)
  rw [e64] at hb
  show IntKind.u64.wrap ((BitVec.ofInt 64 (x : Int) &&& BitVec.ofInt 64 (on k : Int)).toNat : Int) = _
  rw [BitVec.toNat_and, ofInt_u64 x hx, ofInt_u64 (on k) l, IntKind.wrap_u64, ← and_on]
  omega
theorem below_many (A : Option Addr) (n c d i0 : Nat) (W0 : List Nat) (w : World) (HW : Wl w A n c W0) (hd : 1 < d) (h64 : d < 18446744073709551616) (hi0 : i0 ≤ n) :
    Calls Try.prog 10 #[wds A n c (i0 : Int), wd d] w fun e w' => RetD A n c (ans W0 (i0 : Int) d) w e w' := by
  have hn : n ≤ 9223372036854775807 := Nat.le_trans HW.cap HW.top
  have KR := Lib.hid (fun W => dright_any A n c (i0 : Int) hn W)
  have E := Lib.hid (okB_yes (p := (i0 : Int)) (n := n) ⟨by omega, by omega⟩)
  have h0 : ((d : Int) == 0) = false := by simp; omega
  have h1 : ((d : Int) == 1) = false := by simp; omega
  obtain ⟨m, hm⟩ : ∃ m, m = d - 1 := ⟨_, rfl⟩
  have e1 : (d : Int) - 1 = (m : Int) := by omega
  have hm64 : m < 18446744073709551615 := by omega
  have km : mb d ≤ 64 := mb_le (by rw [← P64_two, P64_eq]; omega)
  have KL := Lib.hid (Try.bits_Len64 (m : Int))
  have EB : Hid ((Lib.bitLen (m : Int).toNat : Int) = (mb d : Int)) := by unfold Hid; rw [Int.toNat_natCast, bitLen_bl _ (by omega)]; unfold mb; rw [hm]
  have KO := Lib.hid (ones_any (mb d) km)
  have H1 : Hid (mw d = 1) := mw_small hd (by omega)
  have HD := Lib.hid hd
  have HN : Hid (W0.length = n) := HW.len
  have AND : Hid (∀ x : Nat, x < 18446744073709551616 → bits .and .u64 (x : Int) (on (mb d) : Int) = ((x % 2 ^ mb d : Nat) : Int)) := fun x hx => u64_and_on x (mb d) hx km
  have FIN : Hid (∀ i, tries W0 1 (mb d) d i = tries W0 1 (mb d) d i0 → ∀ v q, tries W0 1 (mb d) d i = some (v, q) → ans W0 (i0 : Int) d = (v, (q : Int), 0)) := by
    intro i h v q hv
    refine ans_hit (by omega) (by have := HW.len; omega) ?_
    rw [H1.out, ← h, hv]
  have DRY : Hid (tries W0 1 (mb d) d n = tries W0 1 (mb d) d i0 → ans W0 (i0 : Int) d = (0, (i0 : Int), 8)) := by
    intro h
    refine ans_dry (by omega) (by have := HW.len; omega) ?_
    rw [H1.out, ← h]
    exact tries_dry (by have := HW.len; omega)
  have HW := Lib.hid HW
  generalize on (mb d) = M0 at *
  clear hm hd km
  obtain ⟨p, hp⟩ : ∃ p : Int, p = (i0 : Int) := ⟨_, rfl⟩
  rw [← hp] at KR E FIN DRY ⊢
  have HP := Lib.hid hp
  clear hp
  obtain ⟨g, hg⟩ : ∃ g, w.heap.size = g := ⟨_, rfl⟩
  have M := Two.new w #[.slice A n c, .int .i64 p] #[.slice none 0 0, .int .i64 0] 28 28
  rw [hg] at M
  go_enter Try.func10, Try.ntmps10
  go_wp2_with fail
  clear hg
  generalize (w.alloc (Obj.cells #[Value.slice A n c, Value.int IntKind.i64 p] 28)).alloc (Obj.cells #[Value.slice none 0 0, Value.int IntKind.i64 0] 28) = W at *
  generalize g + 1 = r at *
  obtain ⟨c0, c1⟩ := M.bg.two
  obtain ⟨k0, k1⟩ := M.br.two
  have m0 := M.br.melt 0; have m1 := M.br.melt 1
  go_wp2_with fail
  clear c0 c1 k0 k1 m0 m1
  refine (KR.out W).mono ?_
  rw [E.out]
  rintro e W1 ⟨rfl, B1⟩
  replace M := M.next B1
  clear B1
  obtain ⟨c0, c1⟩ := M.bg.two
  obtain ⟨k0, k1⟩ := M.br.two
  have m0 := M.br.melt 0; have m1 := M.br.melt 1
  go_wp2_with fail
  refine (KL.out _ (by omega) (by omega)).mono ?_
  rintro e w' ⟨rfl, hw⟩
  obtain rfl := hw.symm
  clear hw
  rw [EB.out]
  go_wp2_with fail
  refine (KO.out _).mono ?_
  rintro e w' ⟨rfl, rfl⟩
  go_wp2_with fail
  clear c0 c1 k0 k1 m0 m1
  go_loopg [8] (n - i0) (fun q s8 wr => ∃ i : Nat, i + q = n ∧ s8 = .int .i64 (i : Int) ∧ Hid (tries W0 1 (mb d) d i = tries W0 1 (mb d) d i0) ∧ W1 = wr)
  case atStart => exact ⟨i0, by omega, by rw [HP.out], rfl, rfl⟩
  case round =>
    obtain ⟨i, hq, rfl, ht, rfl⟩ := hrel
    have HQ := Lib.hid hq
    by_cases lt : i < n
    · have il : (i : Int) < n := by omega
      have il0 : (0 : Int) ≤ i := by omega
      have ix : i < W0.length := by rw [HN.out]; exact lt
      obtain ⟨ad, rfl, cx⟩ := (HW.out.next M.bl).at_ i ix
      have bx := HW.out.lo.at_ i ix
      have AT : Hid (att W0 1 (mb d) i = W0[i] % 2 ^ mb d) := att_one ix
      have EA := AND.out _ bx
      by_cases l : W0[i] % 2 ^ mb d < d
      · have T := Lib.hid (FIN.out i ht.out _ _ (tries_hit (by omega) (by rw [AT.out]; exact l)))
        rw [AT.out] at T
        have l' : ((W0[i] % 2 ^ mb d : Nat) : Int) < d := by omega
        generalize W0[i] % 2 ^ mb d = v at *
        generalize W0[i] = x at *
        clear ht l
        obtain ⟨c0, c1⟩ := M.bg.two
        obtain ⟨k0, k1⟩ := M.br.two
        have m0 := M.br.melt 0; have m1 := M.br.melt 1
        go_wp2_with fail
        go_region
        all_goals go_wp2_with fail
        clear c0 c1 k0 k1 m0 m1
        replace M := (M.put2 (.slice (some ad) n c) (.int .i64 ((i : Int) + 1))).drew
        generalize ((W1.setCell ⟨r, 0, none⟩ (.slice (some ad) n c)).setCell ⟨r, 1, none⟩ (.int .i64 ((i : Int) + 1))).drew = W9 at *
        obtain ⟨z0, z1⟩ := M.br.two
        exact bodyPost_ret (v := .tuple #[.int .u64 (v : Int), .agg #[.slice (some ad) n c, (.int .i64 ((i : Int) + 1))], .int .i64 0]) (by simp [results, Try.results10, go_sem, z0, z1]) rfl ⟨(by rw [T.out] <;> rfl), M.bl⟩
      · have T : Hid (tries W0 1 (mb d) d (i + 1) = tries W0 1 (mb d) d i0) := by
          unfold Hid
          rw [← ht.out]
          exact (tries_next (by omega) (by rw [AT.out]; exact l) (by decide)).symm
        have l' : ¬ ((W0[i] % 2 ^ mb d : Nat) : Int) < d := by omega
        generalize W0[i] % 2 ^ mb d = v at *
        generalize W0[i] = x at *
        clear ht l hq AT
        obtain ⟨c0, c1⟩ := M.bg.two
        go_wp2_with fail
        go_roundg (gk - 1)
        case measure => have := HQ.out; omega
        case rel =>
          go_light
          exact ⟨i + 1, by have := HQ.out; omega, by go_num, T, rfl⟩
    · obtain rfl : n = i := by omega
      have il : ¬ (n : Int) < n := by omega
      have T := Lib.hid (DRY.out ht.out)
      clear ht lt
      obtain ⟨c0, c1⟩ := M.bg.two
      obtain ⟨k0, k1⟩ := M.br.two
      have m0 := M.br.melt 0; have m1 := M.br.melt 1
      go_wp2_with fail
      go_region
      all_goals go_wp2_with fail
      clear c0 c1 k0 k1 m0 m1
      replace M := (M.put2 (.slice A n c) (.int .i64 p)).drew
      generalize ((W1.setCell ⟨r, 0, none⟩ (.slice A n c)).setCell ⟨r, 1, none⟩ (.int .i64 p)).drew = W9 at *
      obtain ⟨z0, z1⟩ := M.br.two
      exact bodyPost_ret (v := .tuple #[.int .u64 0, .agg #[.slice A n c, (.int .i64 p)], .int .i64 8]) (by simp [results, Try.results10, go_sem, z0, z1]) rfl ⟨(by rw [T.out] <;> rfl), M.bl⟩
/-- Below, whatever it is asked. -/
theorem below_any (A : Option Addr) (n c d : Nat) (p : Int) (W0 : List Nat) (w : World) (HW : Wl w A n c W0) (h64 : d < 18446744073709551616) :
    Calls Try.prog 10 #[wds A n c p, wd d] w fun e w' => RetD A n c (ans W0 p d) w e w' := by
  have hn : n ≤ 9223372036854775807 := Nat.le_trans HW.cap HW.top
  by_cases h0 : d = 0
  · subst h0; rw [ans_zero]; exact below_zero A n c p w
  · by_cases hp : 0 ≤ p ∧ p ≤ (n : Int)
    · obtain ⟨i, rfl⟩ := Int.eq_ofNat_of_zero_le hp.1
      have hi : i ≤ n := by omega
      by_cases h1 : d = 1
      · subst h1
        rw [ans_hit (by decide) (by rw [HW.len]; exact hi) (tries_one (by rw [HW.len]; exact hi))]
        exact below_one A n c _ hn (okB_yes hp) w
      · exact below_many A n c d i W0 w HW (by omega) h64 hi
    · rw [ans_arg h0 (by rw [HW.len]; omega)]
      exact below_arg A n c d p hn h0 (okB_no hp) w
end Go.Proofs.Ythhphbaimpcjfaa
