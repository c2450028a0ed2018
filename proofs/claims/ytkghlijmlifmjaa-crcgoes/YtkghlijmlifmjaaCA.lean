/- place of the program; At of the document. -/
import Derived.Test.YtkghlijmlifmjaaSM
import Derived.Test.YtkghlijmlifmjaaSL
import Derived.Test.YtkghlijmlifmjaaCJ
namespace Go.Proofs.Ytkghlijmlifmjaa
open Go.RowKit
set_option maxHeartbeats 2000000
set_option maxRecDepth 100000
theorem place_any (b : UInt8) (w : World) : Calls Try.prog 17 #[.int .u8 (b.toNat : Int)] w fun e w' => e = .returned (.int .u32 (J (tab b))) ∧ w = w' := by
  have hb : (b.toNat : Int) < 256 := by have := b.toNat_lt; omega
  go_enter Try.func17, Try.ntmps17
  go_wp2_with fail
  go_loopg [3, 7] 8 (fun q s3 s7 wr => ∃ k : Nat, k + q = 8 ∧ s7 = .int .i64 (k : Int) ∧ s3 = .int .u32 (J (halfN k (w8 b))) ∧ w = wr)
  case atStart => exact ⟨0, by omega, rfl, by rw [halfN, J_w8], rfl⟩
  case round =>
    obtain ⟨k, hq, rfl, rfl, rfl⟩ := hrel
    have HQ := Lib.hid hq
    by_cases lt : k < 8
    · have il : (k : Int) < 8 := by omega
      have E := Lib.hid (halfN_snoc k (w8 b))
      generalize halfN k (w8 b) = r at *
      clear hq
      go_wp2_with fail
      go_roundg (gk - 1)
      case measure => have := HQ.out; omega
      case rel =>
        go_light
        exact ⟨k + 1, by have := HQ.out; omega, by go_num, by rw [E.out, half_J], rfl⟩
    · obtain rfl : 8 = k := by omega
      clear hq
      go_wp2_with fail
      go_ret
      exact ⟨by rw [tab_eq]; rfl, rfl⟩
theorem refAt_any (b : UInt8) (w : World) : Calls Try.prog 14 #[.int .i64 (b.toNat : Int)] w fun e w' => e = .returned (.int .u32 (J (tab b))) ∧ w = w' := by
  have hb : (b.toNat : Int) < 256 := by have := b.toNat_lt; omega
  go_enter Try.func14, Try.ntmps14
  go_wp2_with fail
  go_loopg [3, 4] 8 (fun q s3 s4 wr => ∃ k : Nat, k + q = 8 ∧ s4 = .int .i64 (k : Int) ∧ s3 = .int .u32 (J (halfN k (w8 b))) ∧ w = wr)
  case atStart => exact ⟨0, by omega, rfl, by rw [halfN, J_w8], rfl⟩
  case round =>
    obtain ⟨k, hq, rfl, rfl, rfl⟩ := hrel
    have HQ := Lib.hid hq
    by_cases lt : k < 8
    · have il : (k : Int) < 8 := by omega
      have E := Lib.hid (halfN_snoc k (w8 b))
      generalize halfN k (w8 b) = r at *
      clear hq
      have T := tdiv_J r
      have M := mod_J (r >>> 1)
      rcases tm_cases r with od | od
      · have HO := Lib.hid (odd_J r od)
        go_wp2_with fail
        go_roundg (gk - 1)
        case measure => have := HQ.out; omega
        case rel =>
          go_light
          exact ⟨k + 1, by have := HQ.out; omega, by go_num, by rw [E.out, HO.out], rfl⟩
      · have HO := Lib.hid (even_J r od)
        go_wp2_with fail
        go_roundg (gk - 1)
        case measure => have := HQ.out; omega
        case rel =>
          go_light
          exact ⟨k + 1, by have := HQ.out; omega, by go_num, by rw [E.out, HO.out], rfl⟩
    · obtain rfl : 8 = k := by omega
      clear hq
      go_wp2_with fail
      go_ret
      exact ⟨by rw [tab_eq]; rfl, rfl⟩
end Go.Proofs.Ytkghlijmlifmjaa
