/- The walk of the law RankHeavy, over what the five calls answer. -/
import Derived.Test.YthollkngfibgaaaDoorJ10
namespace Go.Proofs.YthollkngfibgaaaDoor.rankHeavy
open Go.RowKit
open Go.Proofs.YthollkngfibgaaaDoor
set_option linter.unusedVariables false
set_option linter.unusedSimpArgs false
set_option maxHeartbeats 4000000
set_option maxRecDepth 100000
theorem heavy {k : ByteArray} {u v n : Nat} (h : v < n) : (0 < u ∧ cmpI ⟨k, u, n⟩ ⟨k, u, v⟩ = -1) ∨ (u = 0 ∧ cmpI ⟨k, u, n⟩ ⟨k, u, v⟩ = 0) := by
  by_cases hu : u = 0
  · subst hu
    exact .inr ⟨rfl, cmpI_zero.2 ⟨by simp, rfl⟩⟩
  · have lt : u * v < u * n := Nat.mul_lt_mul_of_pos_left h (by omega)
    refine .inl ⟨by omega, ?_⟩
    rcases cmpI_cases ⟨k, u, n⟩ ⟨k, u, v⟩ with c | c | c
    · exact c
    · have := (cmpI_zero.1 c).1; dsimp only at this; omega
    · have : cmpI ⟨k, u, n⟩ ⟨k, u, v⟩ ≤ 0 := cmpI_le.2 (.inl lt); omega
theorem walk (P : Prog10) (AW : ∀ w : World, Calls Tryd.prog 9 #[] w fun e w' => e = .returned (.bool true) ∧ Below w.heap.size w w') (x : It) (hx : x.Fit) (n : Nat) (hn : n < 18446744073709551616) (w : World) :
    Calls Tryd.prog 6 #[itv x, .int .u64 (n : Int)] w fun e w' => e = .returned (.bool true) ∧ Below w.heap.size w w' := by
  obtain ⟨k, u, v⟩ := x
  have KF := Lib.hid AW
  have KC := Lib.hid (P.check ⟨k, u, v⟩)
  have fu := hx.u; have fv := hx.w
  dsimp only at fu fv
  have KM : Hid (∀ W : World, Calls Tryd.prog 13 #[itv ⟨k, u, n⟩, itv ⟨k, u, v⟩] W fun e w' => e = .returned (.int .i64 (cmpI ⟨k, u, n⟩ ⟨k, u, v⟩)) ∧ Below W.heap.size W w') := fun W => P.cmp ⟨k, u, n⟩ ⟨k, u, v⟩ ⟨fu, hn⟩ ⟨fu, fv⟩ W
  have M := One.new w #[.string k, .int .u64 (u : Int), .int .u64 (v : Int)] 24
  obtain ⟨g, hg⟩ : ∃ g, w.heap.size = g := ⟨_, rfl⟩
  rw [hg] at M
  obtain ⟨cc, hcc⟩ : ∃ c, c = chk ⟨k, u, v⟩ := ⟨_, rfl⟩
  rw [← hcc] at KC
  clear hx P fu fv hn
  by_cases hc : cc = 0
  · subst hc
    by_cases hw : n ≤ v
    · have l1 : (n : Int) ≤ v := by omega
      clear hcc
      go_enter Tryd.func6, Tryd.ntmps6
      go_wp2_with fail
      clear hg
      generalize w.alloc (.cells #[.string k, .int .u64 (u : Int), .int .u64 (v : Int)] 24) = W0 at *
      refine (KC.out _).mono ?_
      rintro e W1 ⟨rfl, B1⟩
      replace M := M.next B1
      obtain ⟨a0, a1, a2⟩ := M.bg.three
      have BL := Lib.hid M.bl
      clear M B1
      go_wp2_with fail
      refine (KF.out _).mono ?_
      rintro e W2 ⟨rfl, B2⟩
      go_wp2_with fail
      go_ret
      exact ⟨rfl, below_step BL.out B2⟩
    · have l1 : ¬ (n : Int) ≤ v := by omega
      have HV := heavy (k := k) (u := u) (show v < n by omega)
      clear hcc hw
      generalize cmpI ⟨k, u, n⟩ ⟨k, u, v⟩ = c at *
      go_enter Tryd.func6, Tryd.ntmps6
      go_wp2_with fail
      clear hg
      generalize w.alloc (.cells #[.string k, .int .u64 (u : Int), .int .u64 (v : Int)] 24) = W0 at *
      refine (KC.out _).mono ?_
      rintro e W1 ⟨rfl, B1⟩
      replace M := M.next B1
      obtain ⟨a0, a1, a2⟩ := M.bg.three
      have D := M.two #[.string k, .int .u64 (u : Int), .int .u64 (n : Int)] 24
      obtain ⟨r, hr⟩ : ∃ r, W1.heap.size = r := ⟨_, rfl⟩
      rw [hr] at D
      go_upto_region 4 with fail
      clear hr a0 a1 a2
      generalize W1.alloc (.cells #[.string k, .int .u64 (u : Int), .int .u64 (n : Int)] 24) = W at *
      obtain ⟨a0, a1, a2⟩ := D.bg.three
      obtain ⟨b0, b1, b2⟩ := D.br.three
      have BL := Lib.hid D.bl
      clear D M B1
      rcases HV with ⟨u0, rfl⟩ | ⟨u0, rfl⟩
      · have u1 : (0 : Int) < u := by omega
        go_region_held3 (fun w' => w'.cell? ⟨g, 0, none⟩ = some (.string k) ∧ w'.cell? ⟨g, 1, none⟩ = some (.int .u64 (u : Int)) ∧ w'.cell? ⟨g, 2, none⟩ = some (.int .u64 (v : Int)) ∧ w'.cell? ⟨r, 0, none⟩ = some (.string k) ∧ w'.cell? ⟨r, 1, none⟩ = some (.int .u64 (u : Int)) ∧ w'.cell? ⟨r, 2, none⟩ = some (.int .u64 (n : Int)))
          ((refine ⟨?_, ?_, ?_, ?_, ?_, ?_⟩ <;> (repeat (first | with_reducible exact a0 | with_reducible exact a1 | with_reducible exact a2 | with_reducible exact b0 | with_reducible exact b1 | with_reducible exact b2 | with_reducible refine keep_drew ?_ | with_reducible refine keep_cell (by assumption) ?_))))
          (first
            | (go_at_call 13; (with_reducible refine (KM.out _).mono ?_); rintro e z ⟨rfl, BZ⟩)
            | (go_at_call 9; (with_reducible refine (KF.out _).mono ?_); rintro e z ⟨rfl, BZ⟩))
        all_goals go_wp2_with fail
        go_ret
        exact ⟨rfl, below_step (below_step (below_step BL.out.drew (by assumption)) (by assumption)) (by assumption)⟩
      · have u1 : ¬ (0 : Int) < u := by omega
        have u2 : ¬ 0 < u := by omega
        clear u0
        go_region_held3 (fun w' => w'.cell? ⟨g, 0, none⟩ = some (.string k) ∧ w'.cell? ⟨g, 1, none⟩ = some (.int .u64 (u : Int)) ∧ w'.cell? ⟨g, 2, none⟩ = some (.int .u64 (v : Int)) ∧ w'.cell? ⟨r, 0, none⟩ = some (.string k) ∧ w'.cell? ⟨r, 1, none⟩ = some (.int .u64 (u : Int)) ∧ w'.cell? ⟨r, 2, none⟩ = some (.int .u64 (n : Int)))
          ((refine ⟨?_, ?_, ?_, ?_, ?_, ?_⟩ <;> (repeat (first | with_reducible exact a0 | with_reducible exact a1 | with_reducible exact a2 | with_reducible exact b0 | with_reducible exact b1 | with_reducible exact b2 | with_reducible refine keep_drew ?_ | with_reducible refine keep_cell (by assumption) ?_))))
          (first
            | (go_at_call 13; (with_reducible refine (KM.out _).mono ?_); rintro e z ⟨rfl, BZ⟩)
            | (go_at_call 9; (with_reducible refine (KF.out _).mono ?_); rintro e z ⟨rfl, BZ⟩))
        all_goals go_wp2_with fail
        go_ret
        exact ⟨rfl, below_step (below_step (below_step BL.out.drew (by assumption)) (by assumption)) (by assumption)⟩
  · have cb : (cc == 0) = false := by simpa using hc
    clear hcc
    go_enter Tryd.func6, Tryd.ntmps6
    go_wp2_with fail
    clear hg
    generalize w.alloc (.cells #[.string k, .int .u64 (u : Int), .int .u64 (v : Int)] 24) = W0 at *
    refine (KC.out _).mono ?_
    rintro e W1 ⟨rfl, B1⟩
    have BL := Lib.hid (M.next B1).bl
    clear M B1
    go_wp2_with fail
    refine (KF.out _).mono ?_
    rintro e W2 ⟨rfl, B2⟩
    go_wp2_with fail
    go_ret
    exact ⟨rfl, below_step BL.out B2⟩
end Go.Proofs.YthollkngfibgaaaDoor.rankHeavy
