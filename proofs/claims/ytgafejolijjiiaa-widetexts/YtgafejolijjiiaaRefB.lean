/- The walk of the document's answer: Cmp. -/
import Derived.Test.YtgafejolijjiiaaRefA
namespace Go.Proofs.Ytgafejolijjiiaa
open Go.RowKit
set_option linter.unusedSimpArgs false
set_option linter.unusedVariables false

theorem high_eq (a b k : Nat) : a / 65536 ^ k = b / 65536 ^ k ↔ a / 65536 ^ (k + 1) = b / 65536 ^ (k + 1) ∧ dgN a k = dgN b k := by
  rw [dgN_eq, dgN_eq, Nat.pow_succ, ← Nat.div_div_eq_div_mul, ← Nat.div_div_eq_div_mul]
  omega
theorem high_lt (a b k : Nat) (h : a / 65536 ^ (k + 1) = b / 65536 ^ (k + 1)) (l : dgN a k < dgN b k) : a < b := by
  rw [dgN_eq, dgN_eq] at l
  rw [Nat.pow_succ, ← Nat.div_div_eq_div_mul, ← Nat.div_div_eq_div_mul] at h
  have : a / 65536 ^ k < b / 65536 ^ k := by omega
  exact Nat.lt_of_div_lt_div this

set_option maxHeartbeats 4000000 in
set_option maxRecDepth 100000 in
theorem refCmp_any (a b : Nat) (ha : Fits a) (hb : Fits b) (w : World) : Calls Try.prog 16 #[U a, U b] w fun e w' => e = .returned (.int .i64 (sgn a b)) ∧ Below w.heap.size w w' := by
  obtain ⟨c, hc⟩ : ∃ c, sgn a b = c := ⟨_, rfl⟩
  rw [hc]
  have HC := Lib.hid hc
  clear hc
  go_enter Try.func16, Try.ntmps16
  go_upto_region 1 with fail
  have S := ((St.start w).box a).box b
  generalize (w.alloc (.cells #[.int .u64 (hi a), .int .u64 (lo a)] 24)).alloc (.cells #[.int .u64 (hi b), .int .u64 (lo b)] 24) = W at *
  simp only [World.size_alloc] at S
  obtain ⟨b0, b1, a0, a1, _⟩ := S.lie
  go_cut [5, 6] (fun s5 s6 wx => Both W a b s5 s6 wx)
  case first =>
    go_region_held3 (fun w' => w'.cell? ⟨w.heap.size, 0, none⟩ = some (.int .u64 (hi a)) ∧ w'.cell? ⟨w.heap.size, 1, none⟩ = some (.int .u64 (lo a)) ∧ w'.cell? ⟨w.heap.size + 1, 0, none⟩ = some (.int .u64 (hi b)) ∧ w'.cell? ⟨w.heap.size + 1, 1, none⟩ = some (.int .u64 (lo b)))
      ((refine ⟨?_, ?_, ?_, ?_⟩ <;> (repeat (first | with_reducible exact a0 | with_reducible exact a1 | with_reducible exact b0 | with_reducible exact b1 | with_reducible refine keep_alloc ?_ _ | with_reducible refine keep_drew ?_))))
      (first
        | (go_at_call 29; refine (digits_any _ (by assumption) _).mono ?_; rintro e w1 ⟨rfl, c1, c2, c3, rfl⟩))
    all_goals go_wp2_with fail
    all_goals go_meet
    all_goals go_light
    all_goals refine ⟨_, _, rfl, rfl, ?_, ?_, ?_, ?_, ?_, ?_⟩
    all_goals first
      | omega
      | (repeat (first
        | (with_reducible refine Blk.new _ ?_; (· ((try simp only [World.size_alloc, World.size_drew]); done)))
        | with_reducible refine Blk.old ?_ _ | with_reducible refine Blk.drew ?_
        | exact Below.refl _ _ | with_reducible refine Below.drew ?_ | (with_reducible refine Below.alloc ?_ ?_ _; rotate_left; (· ((try simp only [World.size_alloc, World.size_drew]); omega)))))
  case rest =>
    obtain ⟨gX, gY, rfl, rfl, BX, BY, gne, gx, gy, bl⟩ := hcut
    have bw := below_step S.bl bl
    clear bl gx gy gne b0 b1 a0 a1 S
    go_wp2_with fail
    go_loopg [7] 8 (fun g i wr => ((g = 0 ∧ i = .int .i64 (-1)) ∨ ∃ k : Nat, g = k + 1 ∧ k < 8 ∧ i = .int .i64 (k : Int)) ∧ Hid (a / 65536 ^ g = b / 65536 ^ g) ∧ Blk wr gX (dg a) ∧ Blk wr gY (dg b) ∧ Below w.heap.size w wr)
    case atStart =>
      refine ⟨Or.inr ⟨7, rfl, by decide, rfl⟩, ?_, BX, BY, bw⟩
      unfold Hid Fits at *
      have e : (65536 : Nat) ^ 8 = 340282366920938463463374607431768211456 := by decide
      rw [e]; omega
    case round =>
      clear BX BY bw
      obtain ⟨i0 | ⟨k, rfl, hk, rfl⟩, EQ, BX, BY, bw⟩ := hrel
      · obtain ⟨rfl, rfl⟩ := i0
        have e : Hid (c = 0) := by
          unfold Hid
          rw [← HC.out]
          have := EQ.out
          simp at this
          subst this
          unfold sgn; rw [if_neg (by omega), if_neg (by omega)]
        clear EQ
        go_wp2_with fail
        go_ret
        exact ⟨by rw [e.out]; rfl, bw⟩
      · have x0 := BX.cell k hk; have y0 := BY.cell k hk
        have k8 : (k : Int) < 8 := by omega
        by_cases l : dg a k < dg b k
        · have e : Hid (c = -1) := by
            unfold Hid
            rw [← HC.out]
            have l' := l
            rw [dg_nat, dg_nat] at l'
            have := high_lt a b k EQ.out (by omega)
            unfold sgn; rw [if_pos this]
          clear EQ
          go_wp2_with fail
          go_quiet (fail)
          go_wp2_with fail
          go_ret
          exact ⟨by rw [e.out]; rfl, below_drewN bw _⟩
        · by_cases l2 : dg b k < dg a k
          · have e : Hid (c = 1) := by
              unfold Hid
              rw [← HC.out]
              have l' := l2
              rw [dg_nat, dg_nat] at l'
              have := high_lt b a k EQ.out.symm (by omega)
              unfold sgn; rw [if_neg (by omega), if_pos this]
            clear EQ
            go_wp2_with fail
            go_quiet (fail)
            go_wp2_with fail
            go_quiet (fail)
            go_wp2_with fail
            go_ret
            exact ⟨by rw [e.out]; rfl, below_drewN (below_drewN bw _) _⟩
          · have e : Hid (a / 65536 ^ k = b / 65536 ^ k) := by
              unfold Hid
              have h1 := l; have h2 := l2
              rw [dg_nat, dg_nat] at h1 h2
              exact (high_eq a b k).2 ⟨EQ.out, by omega⟩
            clear EQ
            go_wp2_with fail
            go_quiet (fail)
            go_wp2_with fail
            go_quiet (fail)
            go_wp2_with fail
            go_roundg k
            case measure => omega
            case rel =>
              go_light
              refine ⟨?_, e, BX, BY, below_drewN bw _⟩
              cases k with
              | zero => exact Or.inl ⟨rfl, rfl⟩
              | succ m => exact Or.inr ⟨m, rfl, by omega, congrArg _ (by omega)⟩
end Go.Proofs.Ytgafejolijjiiaa
