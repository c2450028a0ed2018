/- The fixed answers of the stage. -/
import Derived.Test.YtkghlijmlifmjaaCC
namespace Go.Proofs.Ytkghlijmlifmjaa
open Go.RowKit
set_option maxHeartbeats 2000000
set_option maxRecDepth 100000
theorem sum9 : crcSum [49, 50, 51, 52, 53, 54, 55, 56, 57] = 3808858755#32 := by rw [crcSum_eq]; decide +kernel
theorem sum0 : crcSum [] = 0#32 := by rw [crcSum_eq]; decide +kernel
theorem tab1 : tab 1 = 4067132163#32 := by rw [tab_eq, w8_eq]; decide +kernel
theorem awake_any (w : World) : Calls Try.prog 9 #[] w fun e w' => e = .returned (.bool true) ∧ Below w.heap.size w w' := by
  have K0 := Lib.hid (sum_any ⟨#[49, 50, 51, 52, 53, 54, 55, 56, 57]⟩ (by decide))
  have K1 := Lib.hid (sum_any ⟨#[]⟩ (by decide))
  rw [show L ⟨#[49, 50, 51, 52, 53, 54, 55, 56, 57]⟩ = [49, 50, 51, 52, 53, 54, 55, 56, 57] from rfl, sum9, ← kJ 3808858755 (by decide)] at K0
  rw [show L ⟨#[]⟩ = [] from rfl, sum0, ← kJ 0 (by decide)] at K1
  have IX : ∀ w, (Instr.index 26 (.agg (tc 256)) (.int .i64 1)).run Try.prog w = .ok (.int .u32 4067132163) w := fun w => by
    have := index_tab .i64 1 w
    rw [tab1, ← kJ 4067132163 (by decide)] at this
    exact this
  go_enter Try.func9, Try.ntmps9
  go_wp2_with fail
  refine (K0.out _).mono ?_
  rintro e W1 ⟨rfl, B1⟩
  go_wp2_with fail
  refine (K1.out _).mono ?_
  rintro e W2 ⟨rfl, B2⟩
  go_wp2_with fail
  refine (table_any _).mono ?_
  rintro e W3 ⟨rfl, B3⟩
  go_wp2_with fail
  go_ret
  exact ⟨rfl, below_step (below_step B1 B2) B3⟩
end Go.Proofs.Ytkghlijmlifmjaa
