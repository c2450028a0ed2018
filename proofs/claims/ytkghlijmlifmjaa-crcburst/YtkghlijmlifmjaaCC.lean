/- byTable, More, Sum of the program; the fixed answers. -/
import Derived.Test.YtkghlijmlifmjaaCT
namespace Go.Proofs.Ytkghlijmlifmjaa
open Go.RowKit
set_option maxHeartbeats 400000
set_option maxRecDepth 100000
theorem One.row {w W : World} {g : Nat} {cs : Array Value} (h : One w g cs W) (c : Array Value) : One w g c (W.setRow g c) := by
  obtain ⟨t, hr⟩ := h.bg
  exact ⟨⟨t, setRow_heap _ _ _ _ _ _ hr⟩, h.hg,
    ⟨h.bl.os, h.bl.tape, h.bl.output, by rw [setRow_size]; exact h.bl.size, fun k hk => (setRow_other _ _ _ _ (by have := h.hg; omega)).trans (h.bl.block k hk)⟩⟩
theorem One.over {w W : World} (h : Below w.heap.size w W) (cs : Array Value) (t : TypeId) : One w W.heap.size cs (W.alloc (.cells cs t)) :=
  ⟨Box.new _ _ _, h.size, below_al h _⟩
theorem byTable_any (x : BitVec 32) (s : ByteArray) (hs : s.size ≤ 100000) (w : World) : Calls Try.prog 16 #[.int .u32 (J x), .string s] w fun e w' => e = .returned (.int .u32 (J (upd x (L s)))) ∧ Below w.heap.size w w' := by
  have Z := zero_tab
  go_enter Try.func16, Try.ntmps16
  go_wp2_with fail
  refine (table_any _).mono ?_
  rintro e W ⟨rfl, B⟩
  have M := One.over B (tc 0) 26
  obtain ⟨t1, G⟩ := M.bg
  have hG := Lib.hid G
  clear G
  obtain ⟨g, hg⟩ : ∃ g, g = W.heap.size := ⟨_, rfl⟩
  rw [← hg] at M hG
  go_wp2_with (refine wpList_store_row rfl 26 _ _ rfl g (tc 256) (by rw [hg]; rfl) rfl t1 (tc 0) hG.out (size_tab 256) (by rw [tc_size, tc_size]) (tc_one 256) ?_)
  replace M := M.row (tc 256)
  rw [← hg]
  obtain ⟨W1, hW⟩ : ∃ W1, W1 = (W.alloc (.cells (tc 0) 26)).setRow g (tc 256) := ⟨_, rfl⟩
  rw [← hW] at M
  rw [← hW]
  clear hW
  clear hg hG B Z
  go_loopg [0, 10] s.size (fun q s0 s10 wr => ∃ k : Nat, k + q = s.size ∧ s10 = .int .i64 (k : Int) ∧ s0 = .int .u32 (J (upd x ((L s).take k))) ∧ wr = W1)
  case atStart => exact ⟨0, by omega, rfl, by rw [List.take_zero, upd_nil], rfl⟩
  case round =>
    obtain ⟨k, hq, rfl, rfl, rfl⟩ := hrel
    have HQ := Lib.hid hq
    by_cases lt : k < s.size
    · have il : (k : Int) < s.size := by omega
      have il0 : (0 : Int) ≤ k := by omega
      have E := Lib.hid (upd_take x s k lt)
      generalize upd x ((L s).take k) = r at *
      have W8 := wrap8_J r
      have X8 := xor_8 (lo r) s[k]
      have E2 := Lib.hid (crcStep_tab r s[k])
      generalize lo r ^^^ s[k] = b at *
      have hb : (b.toNat : Int) < 256 := by have := b.toNat_lt; omega
      have c := M.bg.cell (tc_byte b)
      clear hq
      go_wp2_with fail
      rw [shr8_J, xor_J, ← E2.out]
      go_roundg (gk - 1)
      case measure => have := HQ.out; omega
      case rel =>
        go_light
        exact ⟨k + 1, by have := HQ.out; omega, by go_num, by rw [E.out], rfl⟩
    · obtain rfl : s.size = k := by omega
      have il : ¬ (s.size : Int) < s.size := by omega
      have E : Hid ((L s).take s.size = L s) := L_all s
      clear hq
      go_wp2_with fail
      go_ret
      exact ⟨by rw [E.out]; rfl, M.bl⟩
theorem more_any (x : BitVec 32) (s : ByteArray) (hs : s.size ≤ 100000) (w : World) : Calls Try.prog 10 #[.int .u32 (J x), .string s] w fun e w' => e = .returned (.int .u32 (J (crcMore x (L s)))) ∧ Below w.heap.size w w' := by
  have N := cnot_J x
  have K1 := Lib.hid (byPlaces_any (~~~ x) s hs)
  have K2 := Lib.hid (byTable_any (~~~ x) s hs)
  obtain ⟨z, hz⟩ : ∃ z, Hid (z = upd (~~~ x) (L s)) := ⟨_, Lib.hid rfl⟩
  rw [← hz.out] at K1 K2
  have N2 := cnot_J z
  have E : Hid (crcMore x (L s) = ~~~ z) := by unfold Hid crcMore; rw [hz.out]
  go_enter Try.func10, Try.ntmps10
  by_cases big : s.size ≤ 192
  · have b1 : (s.size : Int) ≤ 192 := by omega
    go_wp2_with fail
    refine (K1.out _).mono ?_
    rintro e y ⟨rfl, rfl⟩
    go_wp2_with fail
    go_ret
    exact ⟨by rw [E.out]; rfl, Below.refl _ _⟩
  · have b1 : ¬ (s.size : Int) ≤ 192 := by omega
    go_wp2_with fail
    refine (K2.out _).mono ?_
    rintro e y ⟨rfl, B⟩
    go_wp2_with fail
    go_ret
    exact ⟨by rw [E.out]; rfl, B⟩
/-- The sum of a text. -/
@[irreducible] def crcSum (l : List UInt8) : BitVec 32 := crcMore 0#32 l
theorem crcSum_eq (l : List UInt8) : crcSum l = crcMore 0#32 l := by unfold crcSum; rfl
theorem sum_any (s : ByteArray) (hs : s.size ≤ 100000) (w : World) : Calls Try.prog 12 #[.string s] w fun e w' => e = .returned (.int .u32 (J (crcSum (L s)))) ∧ Below w.heap.size w w' := by
  have K := Lib.hid (more_any 0#32 s hs)
  rw [← kJ0, ← crcSum_eq] at K
  go_enter Try.func12, Try.ntmps12
  go_wp2_with fail
  refine (K.out _).mono ?_
  rintro e y ⟨rfl, B⟩
  go_wp2_with fail
  go_ret
  exact ⟨rfl, B⟩
theorem index_tab (k : IntKind) (b : UInt8) (w : World) : (Instr.index 26 (.agg (tc 256)) (.int k (b.toNat : Int))).run Try.prog w = .ok (.int .u32 (J (tab b))) w := by
  have hi : (Try.prog.info? 22).map (·.size) = some 1 := by kernel_rfl
  have h : b.toNat < 256 := b.toNat_lt
  have g := tc_byte b
  cases hq : Try.prog.info? 22 with
  | none => simp [hq] at hi
  | some i =>
    have hs : i.size = 1 := by simpa [hq] using hi
    simp [Instr.index, asIntOf, run_underlying Try.underlying26, part, isAgg, run_underlying Try.underlying22, sizeOf, typeInfo, h, g, hq, hs]
end Go.Proofs.Ytkghlijmlifmjaa
