/- More of the document. -/
import Derived.Test.YtkghlijmlifmjaaCB
namespace Go.Proofs.Ytkghlijmlifmjaa
open Go.RowKit
set_option maxHeartbeats 2000000
set_option maxRecDepth 100000
theorem crcStep_w8 (x : BitVec 32) (b : UInt8) : crcStep x b = halfN 8 (x ^^^ w8 b) := by rw [w8_eq]; rfl
theorem refMore_any (x : BitVec 32) (s : ByteArray) (hs : s.size ≤ 100000) (w : World) : Calls Try.prog 11 #[.int .u32 (J x), .string s] w fun e w' => e = .returned (.int .u32 (J (crcMore x (L s)))) ∧ w = w' := by
  have N := not_J x
  have N2 := mod_J (~~~ x)
  go_enter Try.func11, Try.ntmps11
  go_wp2_with fail
  obtain ⟨y, hy⟩ : ∃ y, Hid (y = ~~~ x) := ⟨_, Lib.hid rfl⟩
  rw [← hy.out]
  clear N N2
  go_loopg [5, 6] s.size (fun q s5 s6 wr => ∃ k : Nat, k + q = s.size ∧ s6 = .int .i64 (k : Int) ∧ s5 = .int .u32 (J (upd y ((L s).take k))) ∧ w = wr)
  case atStart => exact ⟨0, by omega, rfl, by rw [List.take_zero, upd_nil], rfl⟩
  case round =>
    obtain ⟨k, hq, rfl, rfl, rfl⟩ := hrel
    have HQ := Lib.hid hq
    obtain ⟨X, hX⟩ : ∃ X, X = gk := ⟨_, rfl⟩
    by_cases lt : k < s.size
    · have il : (k : Int) < s.size := by omega
      have il0 : (0 : Int) ≤ k := by omega
      have GP : Hid (1 ≤ gk) := by unfold Hid; omega
      have E := Lib.hid (upd_take y s k lt)
      generalize upd y ((L s).take k) = r at *
      have W8 := J_w8 s[k]
      have E2 := Lib.hid (crcStep_w8 r s[k])
      have XJ := Lib.hid (xor_J r (w8 s[k]))
      clear hq
      go_wp2_with fail
      rw [← W8, mod_J, XJ.out]
      clear W8
      generalize r ^^^ w8 s[k] = z at *
      go_loopg [5, 7] 8 (fun q s5 s7 wr => ∃ j : Nat, j + q = 8 ∧ s7 = .int .i64 (j : Int) ∧ s5 = .int .u32 (J (halfN j z)) ∧ w = wr)
      case atStart => exact ⟨0, by omega, rfl, by rw [halfN], rfl⟩
      case round =>
        obtain ⟨j, hq, rfl, rfl, rfl⟩ := hrel
        have HJ := Lib.hid hq
        by_cases lt8 : j < 8
        · have jl : (j : Int) < 8 := by omega
          have F := Lib.hid (halfN_snoc j z)
          generalize halfN j z = r at *
          clear hq
          have T := tdiv_J r
          have M := mod_J (r >>> 1)
          rcases tm_cases r with od | od
          · have HO := Lib.hid (odd_J r od)
            go_wp2_with fail
            go_roundg (gk - 1)
            case measure => have := HJ.out; omega
            case rel =>
              go_light
              exact ⟨j + 1, by have := HJ.out; omega, by go_num, by rw [F.out, HO.out], rfl⟩
          · have HO := Lib.hid (even_J r od)
            go_wp2_with fail
            go_roundg (gk - 1)
            case measure => have := HJ.out; omega
            case rel =>
              go_light
              exact ⟨j + 1, by have := HJ.out; omega, by go_num, by rw [F.out, HO.out], rfl⟩
        · obtain rfl : 8 = j := by omega
          clear hq
          go_wp2_with fail
          go_roundg (X - 1)
          case measure => have := GP.out; omega
          case rel =>
            go_light
            exact ⟨k + 1, by have := HQ.out; have := GP.out; omega, by go_num, by rw [E.out, E2.out], rfl⟩
    · obtain rfl : s.size = k := by omega
      have il : ¬ (s.size : Int) < s.size := by omega
      have E : Hid ((L s).take s.size = L s) := L_all s
      have N := not_J (upd y ((L s).take s.size))
      have N2 := mod_J (~~~ (upd y ((L s).take s.size)))
      clear hq
      go_wp2_with fail
      go_ret
      refine ⟨?_, rfl⟩
      unfold crcMore
      rw [E.out, hy.out]; rfl
end Go.Proofs.Ytkghlijmlifmjaa
