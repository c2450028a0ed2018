/- byPlaces of the program. -/
import Derived.Test.YtkghlijmlifmjaaCA
namespace Go.Proofs.Ytkghlijmlifmjaa
open Go.RowKit
set_option maxHeartbeats 2000000
set_option maxRecDepth 100000
theorem L_app (a b : ByteArray) : L (a ++ b) = L a ++ L b := by cases a; cases b; simp
theorem upd_take (x : BitVec 32) (s : ByteArray) (k : Nat) (h : k < s.size) : upd x ((L s).take (k + 1)) = crcStep (upd x ((L s).take k)) s[k] := by
  rw [List.take_succ_eq_append_getElem (by rw [L_len]; exact h), upd_snoc]; rfl
theorem L_all (s : ByteArray) : (L s).take s.size = L s := List.take_of_length_le (by rw [L_len]; exact Nat.le_refl _)
theorem byPlaces_any (x : BitVec 32) (s : ByteArray) (hs : s.size ≤ 100000) (w : World) : Calls Try.prog 15 #[.int .u32 (J x), .string s] w fun e w' => e = .returned (.int .u32 (J (upd x (L s)))) ∧ w = w' := by
  go_enter Try.func15, Try.ntmps15
  go_wp2_with fail
  go_loopg [0, 8] s.size (fun q s0 s8 wr => ∃ k : Nat, k + q = s.size ∧ s8 = .int .i64 (k : Int) ∧ s0 = .int .u32 (J (upd x ((L s).take k))) ∧ w = wr)
  case atStart => exact ⟨0, by omega, rfl, by rw [List.take_zero, upd_nil], rfl⟩
  case round =>
    obtain ⟨k, hq, rfl, rfl, rfl⟩ := hrel
    have HQ := Lib.hid hq
    by_cases lt : k < s.size
    · have il : (k : Int) < s.size := by omega
      have il0 : (0 : Int) ≤ k := by omega
      have E := Lib.hid (upd_take x s k lt)
      generalize upd x ((L s).take k) = r at *
      have W8 := wrap8_J r
      have X8 := xor_8 (lo r) s[k]
      have K := Lib.hid (place_any (lo r ^^^ s[k]))
      have E2 := Lib.hid (crcStep_tab r s[k])
      clear hq
      go_wp2_with fail
      refine (K.out _).mono ?_
      rintro e y ⟨rfl, rfl⟩
      go_wp2_with fail
      rw [shr8_J, xor_J, ← E2.out]
      go_roundg (gk - 1)
      case measure => have := HQ.out; omega
      case rel =>
        go_light
        exact ⟨k + 1, by have := HQ.out; omega, by go_num, by rw [E.out], rfl⟩
    · obtain rfl : s.size = k := by omega
      have il : ¬ (s.size : Int) < s.size := by omega
      have E : Hid ((L s).take s.size = L s) := L_all s
      clear hq
      go_wp2_with fail
      go_ret
      exact ⟨by rw [E.out]; rfl, rfl⟩
end Go.Proofs.Ytkghlijmlifmjaa
