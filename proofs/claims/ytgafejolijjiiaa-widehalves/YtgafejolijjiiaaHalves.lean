/- For every number of 128 bits the law WideHalves answers true: a number is twice its half, and what is left over. No condition. -/
import Derived.Test.YtgafejolijjiiaaBase
namespace Go.Proofs.Ytgafejolijjiiaa.wideHalves
open Go.ChangeShapes Go.WideShapes Go.ChangeAt Go.RowKit
open Go.Proofs.Ytgafejolijjiiaa
set_option linter.unusedVariables false
set_option linter.unusedSimpArgs false

set_option maxHeartbeats 4000000 in
set_option maxRecDepth 100000 in
theorem walk (n : Nat) (hn : Fits n) (w : World) :
    Calls Try.prog 10 #[U n] w fun e w' => e = .returned (.bool true) ∧ Below w.heap.size w w' := by
  have HN := Lib.hid hn
  have two : Word 2 := .mk (by decide) (by decide)
  have F2 : Hid (Fits (2 : Int).toNat) := by unfold Hid Fits; decide
  have D := Lib.hid (div_any n 2 hn (fits_of (by decide)) (by decide))
  have q2 : Fits (n / 2 + n / 2) := by unfold Fits at *; omega
  have A1 := Lib.hid (add_bel (n / 2) (n / 2) (fits_half hn) (fits_half hn))
  rw [cut_yes q2, fitsB_yes q2] at A1
  have q3 : Fits (n / 2 + n / 2 + n % 2) := by unfold Fits at *; omega
  have A2 := Lib.hid (add_bel (n / 2 + n / 2) (n % 2) q2 (by unfold Fits at *; omega))
  have e3 : n / 2 + n / 2 + n % 2 = n := by omega
  rw [cut_yes q3, fitsB_yes q3, e3] at A2
  have lm : lo n % 2 = lo (n % 2) := by unfold lo; omega
  have lm2 : (lo n).tmod 2 = lo (n % 2) := by rw [Int.tmod_eq_emod_of_nonneg (lo_nonneg n)]; exact lm
  have O1 := Lib.hid (of_bel (lo (n % 2)) (word_lo _))
  have e4 : (lo (n % 2)).toNat = n % 2 := by rw [toNat_lo]; omega
  rw [e4] at O1
  have L1 := Lib.hid lm; have L2 := Lib.hid lm2
  clear hn q2 q3 e3 lm lm2 e4
  go_enter Try.func10, Try.ntmps10
  go_upto_region 1 with fail
  have S := (St.start w).box n
  generalize w.alloc (.cells #[.int .u64 (hi n), .int .u64 (lo n)] 24) = wA at *
  have a0 := S.lie.1; have a1 := S.lie.2.1
  have zA : w.heap.size < wA.heap.size := cell_lt a0
  go_cut [3, 4, 5] (fun s3 s4 s5 wx => ∃ B C, s3 = .pointer (some ⟨B, 0, none⟩) ∧ s4 = .pointer (some ⟨C, 0, none⟩) ∧ s5 = .bool true ∧ St w [(C, n % 2), (B, n / 2), (w.heap.size, n)] wx)
  case first =>
    go_region_held3 (fun w' => w'.cell? ⟨w.heap.size, 0, none⟩ = some (.int .u64 (hi n)) ∧ w'.cell? ⟨w.heap.size, 1, none⟩ = some (.int .u64 (lo n)))
      ((refine ⟨?_, ?_⟩ <;> (repeat (first | with_reducible exact a0 | with_reducible exact a1 | with_reducible refine keep_alloc ?_ _ | with_reducible refine keep_drew ?_ | with_reducible refine keep_set ?_ _ (by simp <;> omega) | with_reducible refine keep_cell (by assumption) ?_))))
      (first
        | (go_at_call 22; refine (of_bel _ two _).mono ?_; rintro e w1 ⟨rfl, hb1⟩; obtain ⟨hc1, hf1⟩ := bcell hb1; have z1 := hb1.size; (try simp only [World.size_alloc, World.size_drew, Nat.add_one_le_iff] at z1); (try (refine fact_of (p := wA.heap.size < w1.heap.size) ?_ ?_; (· omega); intro _)); (try (refine fact_of (p := wA.heap.size + 1 < w1.heap.size) ?_ ?_; (· omega); intro _)))
        | (go_at_call 19; refine (D.out _).mono ?_; rintro e w2 ⟨rfl, hb2⟩; obtain ⟨hc2, hf2⟩ := bcell hb2; have z2 := hb2.size; (try simp only [World.size_alloc, World.size_drew, Nat.add_one_le_iff] at z2); (try (refine fact_of (p := wA.heap.size < w2.heap.size) ?_ ?_; (· omega); intro _)); (try (refine fact_of (p := wA.heap.size + 1 < w2.heap.size) ?_ ?_; (· omega); intro _)); (try (refine fact_of (p := w1.heap.size < w2.heap.size) ?_ ?_; (· omega); intro _)); (try (refine fact_of (p := w1.heap.size + 1 < w2.heap.size) ?_ ?_; (· omega); intro _))))
    all_goals go_wp2_with fail
    all_goals go_meet
    all_goals go_light
    all_goals refine ⟨_, _, rfl, rfl, rfl, ⟨?_, ?_, ?_, ?_, ?_, ?_, trivial⟩, ?_⟩
    all_goals (repeat (first
      | with_reducible exact a0 | with_reducible exact a1 | with_reducible exact S.bl
      | (simp [go_sem]; done)
      | with_reducible refine cell_put0 ?_ | with_reducible refine cell_put1 ?_ | with_reducible refine keep_alloc ?_ _ | with_reducible refine keep_drew ?_
      | (with_reducible refine keep_set ?_ _ ?_; rotate_left; (· (simp only [ne_eq]; omega)))
      | with_reducible refine keep_cell (by assumption) ?_
      | with_reducible refine Below.drew ?_ | (with_reducible refine Below.setCell ?_ ?_ _; rotate_left; (· (simp only []; omega)))
      | (with_reducible refine Below.alloc ?_ ?_ _; rotate_left; (· ((try simp only [World.size_alloc, World.size_drew, World.size_setCell]); omega)))
      | with_reducible refine below_step ?_ (by assumption)))
  case rest =>
    obtain ⟨B, C, rfl, rfl, rfl, S2⟩ := hcut
    clear a0 a1 zA S
    obtain ⟨c0, c1, b0, b1, a0, a1, _⟩ := S2.lie
    go_wp2_with fail
    refine (A1.out _).mono ?_
    rintro e w3 ⟨rfl, hb3⟩
    go_upto_region 3 with fail
    have S3 := (S2.next hb3).box (n / 2 + n / 2)
    generalize w3.alloc (.cells #[.int .u64 (hi (n / 2 + n / 2)), .int .u64 (lo (n / 2 + n / 2))] 24) = wD at *
    generalize w3.heap.size = E at *
    clear c0 c1 b0 b1 a0 a1 hb3 S2
    obtain ⟨e0, e1, c0, c1, b0, b1, a0, a1, _⟩ := S3.lie
    go_wp2_with fail
    refine (A2.out _).mono ?_
    rintro e w4 ⟨rfl, hb4⟩
    go_upto_region 4 with fail
    have S4 := (S3.next hb4).box n
    generalize w4.alloc (.cells #[.int .u64 (hi n), .int .u64 (lo n)] 24) = wE at *
    generalize w4.heap.size = F at *
    clear e0 e1 c0 c1 b0 b1 a0 a1 hb4 S3
    obtain ⟨f0, f1, e0, e1, c0, c1, b0, b1, a0, a1, _⟩ := S4.lie
    go_region_held3 (fun w' => w'.cell? ⟨F, 0, none⟩ = some (.int .u64 (hi n)) ∧ w'.cell? ⟨F, 1, none⟩ = some (.int .u64 (lo n)) ∧ w'.cell? ⟨w.heap.size, 0, none⟩ = some (.int .u64 (hi n)) ∧ w'.cell? ⟨w.heap.size, 1, none⟩ = some (.int .u64 (lo n)) ∧ w'.cell? ⟨C, 0, none⟩ = some (.int .u64 (hi (n % 2))) ∧ w'.cell? ⟨C, 1, none⟩ = some (.int .u64 (lo (n % 2))))
      ((refine ⟨?_, ?_, ?_, ?_, ?_, ?_⟩ <;> (repeat (first | with_reducible exact f0 | with_reducible exact f1 | with_reducible exact a0 | with_reducible exact a1 | with_reducible exact c0 | with_reducible exact c1 | with_reducible refine keep_drew ?_ | with_reducible refine keep_cell (by assumption) ?_))))
      (first
        | (go_at_call 22; (try rw [L1.out]); (try rw [L2.out]); refine (O1.out _).mono ?_; rintro e x1 ⟨rfl, hx1⟩)
        | (go_at_call 23; refine (awake_any _).mono ?_; rintro e x2 ⟨rfl, hx2⟩))
    go_wp2_with fail
    go_ret
    refine ⟨rfl, ?_⟩
    repeat (first | with_reducible exact S4.bl.drew | with_reducible refine below_step ?_ (by assumption))

set_option maxRecDepth 100000 in
theorem lifted (os : Os) (started : os.Started) (H : Type) (enc : TypeId × Value → H) :
    ReturnsInHanded {} Try.checked os 10 .any (Rows.wideHalvesSpec.pre6 enc Try.prog Try.f10 Rows.wideHalvesRow.domain false) (Rows.wideHalvesSpec.post enc Try.prog Try.f10 false true false false) := by
  refine returnsInHanded_of_change (C := Try.checked) own started (by kernel_rfl) Try.func10
    (ChangeSpec.witness6 (enc := enc) (C := Try.checked) false ⟨#[], #[.agg #[.int .u64 0, .int .u64 0]], []⟩ 8 (by kernel_rfl) (by kernel_rfl) (by kernel_rfl) (by kernel_rfl)) ?_
  intro W base args ds gs before hval0 hW hcnd _
  have hval : ∀ (j : Nat) t v, Try.f10.params[j]? = some t → args[j]? = some v → Value.okWide Try.prog W .any base t v := hval0
  have hW' := hW
  obtain ⟨p, q, hA0, hV, rfl, hfz, hnd⟩ := hW
  have hA : DataW.TrodAll enc Try.prog W 0 (fun _ => true) true Try.f10.params.toList args.toList ds p := hA0
  rw [Try.params10] at hA hval
  obtain ⟨v0, d0, rfl, rfl, h0⟩ := trodAll_one hA
  obtain ⟨rfl, rfl⟩ := trodVars_none hV
  obtain ⟨n, hn, rfl, rfl, rfl, s0⟩ := open_num (hval 0 24 v0 rfl rfl) h0
  clear hA0 hval0
  simp only [List.append_nil] at hW'
  refine (walk n hn W).mono fun e W' ⟨he, hb⟩ => ?_
  subst he
  exact ⟨_, rfl, post_plain hW' (fun _ _ _ => trodAll_mk1 (shut_bool Try.underlying4 _)) (fun sp => trodAll_mk1 (s0 _ _)) (fun _ => rfl) hb⟩

theorem proved : Rows.WideHalvesSaid :=
  OpenClaim.holds_of_wide 10 Try.f10 rfl rfl rfl rfl rfl rfl rfl ⟨rfl, rfl, rfl, rfl, rfl⟩ rfl rfl rfl rfl rfl (by kernel_rfl) Try.func10 (by kernel_rfl)
    (of_decide_eq_true (by kernel_rfl)) (by unfold Func.isWrapper; first | (rw [if_pos (by decide +kernel)]; kernel_rfl) | (rw [if_neg (by decide +kernel)]; exact ⟨rfl, rfl⟩))
    (fun os started H enc _ => lifted os started H enc)
#print axioms proved
end Go.Proofs.Ytgafejolijjiiaa.wideHalves
