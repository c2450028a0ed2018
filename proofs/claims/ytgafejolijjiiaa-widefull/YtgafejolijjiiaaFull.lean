/- For every two numbers of 64 bits the law WideFull answers true: the product of two numbers of 64 bits is that of both as numbers of 128. No condition. -/
import Derived.Test.YtgafejolijjiiaaBase
namespace Go.Proofs.Ytgafejolijjiiaa.wideFull
open Go.ChangeShapes Go.WideShapes Go.ChangeAt Go.RowKit
open Go.Proofs.Ytgafejolijjiiaa
set_option linter.unusedVariables false
set_option linter.unusedSimpArgs false

set_option maxHeartbeats 2000000 in
set_option maxRecDepth 100000 in
theorem walk (x y : Int) (wx : Word x) (wy : Word y) (w : World) :
    Calls Try.prog 8 #[.int .u64 x, .int .u64 y] w fun e w' => e = .returned (.bool true) ∧ Below w.heap.size w w' := by
  have f : Fits (x.toNat * y.toNat) := by
    have h1 := wx.lt; have h2 := wy.lt
    have := Nat.mul_le_mul (show x.toNat ≤ 18446744073709551615 by omega) (show y.toNat ≤ 18446744073709551615 by omega)
    unfold Fits; omega
  have M := Lib.hid (mul_any x.toNat y.toNat (fits_word x wx) (fits_word y wy))
  rw [cut_yes f, fitsB_yes f] at M
  have HC := Lib.hid (Nat.mul_comm y.toNat x.toNat)
  clear f
  go_enter Try.func8, Try.ntmps8
  go_wp2_with fail
  refine (of_bel _ wx _).mono ?_
  rintro e w1 ⟨rfl, hb1⟩
  go_wp2_with fail
  refine (of_bel _ wy _).mono ?_
  rintro e w2 ⟨rfl, hb2⟩
  go_wp2_with fail
  refine (M.out _).mono ?_
  rintro e w3 ⟨rfl, hb3⟩
  go_upto_region 2 with fail
  have S := (((((St.start w).next hb1).next hb2).next hb3).box (x.toNat * y.toNat))
  generalize w3.alloc (.cells #[.int .u64 (hi (x.toNat * y.toNat)), .int .u64 (lo (x.toNat * y.toNat))] 24) = wA at *
  generalize w3.heap.size = A at *
  obtain ⟨a0, a1, _⟩ := S.lie
  clear hb1 hb2 hb3
  go_region_held3 (fun w' => w'.cell? ⟨A, 0, none⟩ = some (.int .u64 (hi (x.toNat * y.toNat))) ∧ w'.cell? ⟨A, 1, none⟩ = some (.int .u64 (lo (x.toNat * y.toNat))))
    ((refine ⟨?_, ?_⟩ <;> (repeat (first | with_reducible exact a0 | with_reducible exact a1 | with_reducible refine keep_drew ?_ | with_reducible refine keep_cell (by assumption) ?_))))
    (first
      | (go_at_call 21; refine (full_bel _ _ (by assumption) (by assumption) _).mono ?_; (try rw [HC.out]); rintro e x1 ⟨rfl, hx1⟩)
      | (go_at_call 23; refine (awake_any _).mono ?_; rintro e x3 ⟨rfl, hx3⟩))
  go_wp2_with fail
  go_ret
  refine ⟨rfl, ?_⟩
  repeat (first | with_reducible exact S.bl.drew | refine below_step ?_ (by assumption))

set_option maxRecDepth 100000 in
theorem lifted (os : Os) (started : os.Started) (H : Type) (enc : TypeId × Value → H) :
    ReturnsInHanded {} Try.checked os 8 .any (Rows.wideFullSpec.pre6 enc Try.prog Try.f8 Rows.wideFullRow.domain false) (Rows.wideFullSpec.post enc Try.prog Try.f8 false true false false) := by
  refine returnsInHanded_of_change (C := Try.checked) own started (by kernel_rfl) Try.func8
    (ChangeSpec.witness6 (enc := enc) (C := Try.checked) false ⟨#[], #[.int .u64 0, .int .u64 0], []⟩ 8 (by kernel_rfl) (by kernel_rfl) (by kernel_rfl) (by kernel_rfl)) ?_
  intro W base args ds gs before hval0 hW hcnd _
  have hval : ∀ (j : Nat) t v, Try.f8.params[j]? = some t → args[j]? = some v → Value.okWide Try.prog W .any base t v := hval0
  have hW' := hW
  obtain ⟨p, q, hA0, hV, rfl, hfz, hnd⟩ := hW
  have hA : DataW.TrodAll enc Try.prog W 0 (fun _ => true) true Try.f8.params.toList args.toList ds p := hA0
  rw [Try.params8] at hA hval
  obtain ⟨v0, v1, d0, d1, p0, p1, rfl, rfl, rfl, h0, h1⟩ := trodAll_two hA
  obtain ⟨rfl, rfl⟩ := trodVars_none hV
  obtain ⟨x, rfl, rfl, rfl, wx⟩ := open_int Try.underlying22 (hval 0 22 v0 rfl rfl) h0
  obtain ⟨y, rfl, rfl, rfl, wy⟩ := open_int Try.underlying22 (hval 1 22 v1 rfl rfl) h1
  clear hA0 hval0
  simp only [List.append_nil] at hW'
  refine (walk x y (wf_word wx) (wf_word wy) W).mono fun e W' ⟨he, hb⟩ => ?_
  subst he
  exact ⟨_, rfl, post_plain hW' (fun _ _ _ => trodAll_mk1 (shut_bool Try.underlying4 _)) (fun sp => trodAll_mk2 (shut_int Try.underlying22 wx) (shut_int Try.underlying22 wy)) (fun _ => rfl) hb⟩

theorem proved : Rows.WideFullSaid :=
  OpenClaim.holds_of_wide 8 Try.f8 rfl rfl rfl rfl rfl rfl rfl ⟨rfl, rfl, rfl, rfl, rfl⟩ rfl rfl rfl rfl rfl (by kernel_rfl) Try.func8 (by kernel_rfl)
    (of_decide_eq_true (by kernel_rfl)) (by unfold Func.isWrapper; first | (rw [if_pos (by decide +kernel)]; kernel_rfl) | (rw [if_neg (by decide +kernel)]; exact ⟨rfl, rfl⟩))
    (fun os started H enc _ => lifted os started H enc)
#print axioms proved
end Go.Proofs.Ytgafejolijjiiaa.wideFull
