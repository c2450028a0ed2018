/- The walk of the law ApproxWhole. -/
import Derived.Test.YtdnikdocfbbkkaaDoorAG
namespace Go.Proofs.YtdnikdocfbbkkaaDoor.approxWhole
open Go.RowKit
open Go.Proofs.YtdnikdocfbbkkaaDoor
set_option linter.unusedVariables false
set_option linter.unusedSimpArgs false
theorem fq_whole {x : Nat} (h : x < 18446744073709551616) : Fq x 1 := ⟨Nat.le_trans (ln_le (k := 2) (by rw [B_eq]; omega)) (by decide), Nat.le_trans ln_one (by decide), by decide, Nat.gcd_one_right x⟩
/-- What the float64 of a whole number turns back into. -/
theorem whole_back {x b : Nat} (h : x ≤ 9007199254740992) (f : Fl x 1 b) : floatToIntVal .f64 b .u64 = some (x : Int) := by
  obtain ⟨b1, lt, e⟩ := whole_is h
  have k : Fl x 1 b1 := fl_exact (by decide) (by rw [Nat.mul_one, e]) lt
  rw [f.same k]
  exact back_to_nat lt e (by omega)
set_option maxHeartbeats 4000000 in
set_option maxRecDepth 100000 in
theorem big (K : App) {x : Nat} (hx : x < 18446744073709551616) (z : 9007199254740992 < x) (w : World) : Calls Tryd.prog 12 #[.int .u64 (x : Int)] w fun e w' => e = .returned (.bool true) ∧ Below w.heap.size w w' := by
  have KA := Lib.hid K
  have KW := Lib.hid (fun W => whole_r x hx W)
  have FQ := Lib.hid (fq_whole hx)
  obtain ⟨b0, hb0⟩ : ∃ b0, floatOfInt .f64 (x : Int) = b0 := ⟨_, rfl⟩
  have F0 := Lib.hid (hb0 ▸ float_of_nat x : Fl x 1 b0)
  have d1 : decide ((x : Int) > 9007199254740992) = true := by simp; omega
  clear K z hx
  go_enter Tryd.func12, Tryd.ntmps12
  go_wp2_with fail
  refine (KW.out _).mono ?_
  rintro e y1 ⟨A1, n1, c1, A2, n2, c2, rfl, M1, M2, B1⟩
  have S := (((Fs.start w).next B1).put M1).put M2
  clear M1 M2 B1 KW
  go_wp2_with fail
  refine (KA.out.fl S.lie.2.1 S.lie.1 FQ.out).mono ?_
  rintro e y2 ⟨b, fb, rfl, B1⟩
  have S := S.next B1
  obtain rfl := fb.same F0.out
  have i1 : (FloatKind.f64.format.order b b == some .eq) = true := by
    have := order_rung (a := b) (b := b) fb.le fb.le
    rw [show FloatKind.f64.format = Ieee.double from rfl, this]; simp
  clear fb B1 F0
  go_wp2_with fail
  refine (awake4 KA.out _).mono ?_
  rintro e y9 ⟨rfl, B1⟩
  have S := S.next B1
  go_wp2_with fail
  go_ret
  exact ⟨rfl, S.bl⟩
set_option maxHeartbeats 4000000 in
set_option maxRecDepth 100000 in
theorem few (K : App) {x : Nat} (hx : x < 18446744073709551616) (z : ¬ 9007199254740992 < x) (w : World) : Calls Tryd.prog 12 #[.int .u64 (x : Int)] w fun e w' => e = .returned (.bool true) ∧ Below w.heap.size w w' := by
  have KA := Lib.hid K
  have KW := Lib.hid (fun W => whole_r x hx W)
  have FQ := Lib.hid (fq_whole hx)
  obtain ⟨b0, hb0⟩ : ∃ b0, floatOfInt .f64 (x : Int) = b0 := ⟨_, rfl⟩
  have F0 := Lib.hid (hb0 ▸ float_of_nat x : Fl x 1 b0)
  have FT := whole_back (by omega) F0.out
  have RC := fun W : World => run_convert_float_int (P := Tryd.prog) (w := W) 67 24 .f64 .u64 b0 x (by kernel_rfl) Tryd.underlying24 FT
  clear FT
  have d1 : decide ((x : Int) > 9007199254740992) = false := by simp; omega
  clear K z hx
  go_enter Tryd.func12, Tryd.ntmps12
  go_wp2_with fail
  refine (KW.out _).mono ?_
  rintro e y1 ⟨A1, n1, c1, A2, n2, c2, rfl, M1, M2, B1⟩
  have S := (((Fs.start w).next B1).put M1).put M2
  clear M1 M2 B1 KW
  go_wp2_with fail
  refine (KA.out.fl S.lie.2.1 S.lie.1 FQ.out).mono ?_
  rintro e y2 ⟨b, fb, rfl, B1⟩
  have S := S.next B1
  obtain rfl := fb.same F0.out
  have i1 : (FloatKind.f64.format.order b b == some .eq) = true := by
    have := order_rung (a := b) (b := b) fb.le fb.le
    rw [show FloatKind.f64.format = Ieee.double from rfl, this]; simp
  clear fb B1 F0
  go_wp2_with (simp only [RC])
  refine (awake4 KA.out _).mono ?_
  rintro e y9 ⟨rfl, B1⟩
  have S := S.next B1
  go_wp2_with fail
  go_ret
  exact ⟨rfl, S.bl⟩
theorem walk (K : App) {x : Nat} (hx : x < 18446744073709551616) (w : World) : Calls Tryd.prog 12 #[.int .u64 (x : Int)] w fun e w' => e = .returned (.bool true) ∧ Below w.heap.size w w' := by
  by_cases z : 9007199254740992 < x
  · exact big K hx z w
  · exact few K hx z w
end Go.Proofs.YtdnikdocfbbkkaaDoor.approxWhole
