/- The walk of takeTimes. -/
import Derived.Test.YtnacokogihanoaaDoorWalkI
namespace Go.Proofs.YtnacokogihanoaaDoor
open Go.RowKit
set_option linter.unusedVariables false
set_option linter.unusedSimpArgs false

/-- What is in the loop of takeTimes. -/
structure Tak (w : World) (g o : Nat) (zs ys : List Nat) (f i k b : Nat) (wr : World) : Prop where
  ss : ∃ ss, ss.length = i ∧ Lo ss ∧ val ss + val (ys.take i) * f = val ((zs.drop o).take i) + B ^ i * (k + b) ∧ Row wr g (zs.take o ++ ss ++ zs.drop (o + i))
  kb : k < 4294967296
  bb : b ≤ 1
  t : Turn w wr g
theorem Tak.drew {w : World} {g o : Nat} {zs ys : List Nat} {f i k b : Nat} {wr : World} (h : Tak w g o zs ys f i k b wr) : Tak w g o zs ys f i k b wr.drew := by
  obtain ⟨ss, a, c, d, r⟩ := h.ss
  exact ⟨⟨ss, a, c, d, r.drew⟩, h.kb, h.bb, h.t.drew⟩
theorem tak_step {P V Y Z f x k b z T d b2 : Nat} (h : V + Y * f = Z + P * (k + b)) (ht : T = x * f + k) (hz : z + 4294967296 * b2 = d + T % 4294967296 + b) :
    V + P * d + (Y + P * x) * f = Z + P * z + P * 4294967296 * (T / 4294967296 + b2) := by
  have e : k + b + d + x * f = z + 4294967296 * (T / 4294967296 + b2) := by omega
  have e2 : P * (k + b) + P * d + P * (x * f) = P * z + P * 4294967296 * (T / 4294967296 + b2) := by
    rw [← Nat.mul_add, ← Nat.mul_add, e, Nat.mul_add, ← Nat.mul_assoc]
  rw [Nat.add_mul, Nat.mul_assoc]
  omega
theorem Tak.step {w : World} {g o : Nat} {zs ys : List Nat} {f i k b : Nat} {wr : World} (h : Tak w g o zs ys f i k b wr) (x : Nat) (hx : x < 4294967296) (hf : f < 4294967296)
    (ex : val (ys.take (i + 1)) = val (ys.take i) + B ^ i * x) (hz : o + i < zs.length) (lz : Lo zs) :
    wr.cell? ⟨g, o + i, none⟩ = some (lv zs[o + i]) ∧ wr.frozen? ⟨g, o + i, none⟩ = false ∧
    Tak w g o zs ys f (i + 1) ((x * f + k) / 4294967296) (bor zs[o + i] ((x * f + k) % 4294967296 + b)) (wr.setCell ⟨g, o + i, none⟩ (lv ((zs[o + i] + 8589934592 - (x * f + k) % 4294967296 - b) % 4294967296))) := by
  obtain ⟨ss, hl, lo, hv, r⟩ := h.ss
  have hk := h.kb
  have hb := h.bb
  have hzz := lz.at_ (o + i) hz
  have hxf : x * f ≤ 4294967295 * 4294967295 := Nat.mul_le_mul (by omega) (by omega)
  refine ⟨r.cell' (part_at zs ss o i hz hl), r.melt _, ⟨ss ++ [(zs[o + i] + 8589934592 - (x * f + k) % 4294967296 - b) % 4294967296], by simp [hl], lo.append (.cons (Nat.mod_lt _ (by decide)) .nil), ?_, ?_⟩, ?_, bor_le _ _, h.t.setCell _ _⟩
  · have hi : i < (zs.drop o).length := by simp; omega
    have e2 := val_take_succ (zs.drop o) i hi
    rw [List.getElem_drop] at e2
    rw [val_snoc, hl, ex, e2, Nat.pow_succ, show B ^ i * B = B ^ i * 4294967296 by rw [B_eq]]
    exact tak_step hv rfl (dif_limb _ _ _ hzz (Nat.mod_lt _ (by decide)) hb)
  · have := r.set_ (o + i) ((zs[o + i] + 8589934592 - (x * f + k) % 4294967296 - b) % 4294967296) (Nat.mod_lt _ (by decide))
    rwa [set_part zs ss _ o i hz hl] at this
  · generalize x * f = q at *
    omega
/-- What takeTimes leaves. -/
def RetT (w : World) (g o : Nat) (zs ys : List Nat) (f m : Nat) (e : Ending) (w' : World) : Prop := ∃ b : Nat, e = .returned (.bool ((b : Int) != 0)) ∧ Tak w g o zs ys f (m + 1) 0 b w'
theorem cast_div2 (x f k : Nat) : ((x : Int) * (f : Int) + (k : Int)) / 4294967296 = (((x * f + k) / 4294967296 : Nat) : Int) := by
  rw [← Int.natCast_mul]; generalize x * f = q; omega
theorem cast_mod2 (x f k : Nat) : ((x : Int) * (f : Int) + (k : Int)) % 4294967296 = (((x * f + k) % 4294967296 : Nat) : Int) := by
  rw [← Int.natCast_mul]; generalize x * f = q; omega

set_option maxHeartbeats 2000000 in
set_option maxRecDepth 100000 in
theorem takeTimes_any {A : Option Addr} {g o c m cb f : Nat} {zs ys : List Nat} {w : World} (hr : Row w g zs) (hy : Lim w A m cb ys) (hz : o + m < zs.length) (hm : m ≤ 1000) (hne : ∀ ad, A = some ad → 0 < m → ad.block ≠ g) (hf : f < 4294967296) :
    Calls Tryd.prog 118 #[.slice (some ⟨g, o, none⟩) (m + 1) c, .slice A m cb, .int .u64 f] w fun e w' => RetT w g o zs ys f m e w' := by
  have S0 : Tak w g o zs ys f 0 0 0 w := ⟨⟨[], rfl, .nil, by rw [List.take_zero, List.take_zero, val_nil, Nat.mul_zero, Nat.zero_mul], by simpa using hr⟩, by omega, by omega, Turn.refl _ _⟩
  have HY := Lib.hid hy; have HNE := Lib.hid hne
  have LZ := Lib.hid hr.lo
  have EY := Lib.hid hy.len
  clear hr hy hne
  go_enter Tryd.func118, Tryd.ntmps118
  go_wp2_with fail
  go_loopg [7, 8, 14] m (fun q s7 s8 s14 wr => ∃ (i k : Nat) (b : Nat), i + q = m ∧ s14 = .int .i64 (i : Int) ∧ s7 = .int .u64 (k : Int) ∧ s8 = lv b ∧ Tak w g o zs ys f i k b wr)
  case atStart => exact ⟨0, 0, 0, by omega, rfl, rfl, rfl, S0⟩
  case round =>
    clear S0
    obtain ⟨i, k, b, hq, rfl, rfl, rfl, S⟩ := hrel
    have HQ := Lib.hid hq
    have bk := S.kb
    have bb := S.bb
    by_cases lt : i < m
    · clear hq
      have il : (i : Int) < m := by omega
      have il1 : (i : Int) < (m : Int) + 1 := by omega
      have il0 : (0 : Int) ≤ i := by omega
      have i2 : i < ys.length := by rw [EY.out]; omega
      obtain ⟨ad, rfl, c2⟩ := (turn_lim S.t HY.out HNE.out).at_ i i2
      have bx := HY.out.lo.at_ i i2
      obtain ⟨c3, f3, ST⟩ := S.step ys[i] bx hf (val_take_succ ys i i2) (by omega) LZ.out
      have ST := Lib.hid ST
      have bz := LZ.out.at_ (o + i) (by omega)
      generalize ys[i] = x at *
      generalize zs[o + i]'(by omega) = z at *
      have hxy : x * f ≤ 4294967295 * 4294967295 := Nat.mul_le_mul (by omega) (by omega)
      have exy : ((x * f : Nat) : Int) = (x : Int) * (f : Int) := Int.natCast_mul _ _
      have hxy1 : (x : Int) * (f : Int) ≤ 18446744065119617025 := by omega
      have hxy0 : 0 ≤ (x : Int) * (f : Int) := by omega
      have KS := Lib.hid (sub32 z ((x * f + k) % 4294967296) b bz (Nat.mod_lt _ (by decide)) bb)
      have E1 := Lib.hid (cast_div2 x f k)
      have E2 := Lib.hid (cast_mod2 x f k)
      clear S exy hxy
      go_wp2_with fail
      rw [E2.out]
      refine (KS.out _).mono ?_
      rintro e w1 ⟨rfl, rfl⟩
      generalize (z + 8589934592 - (x * f + k) % 4294967296 - b) % 4294967296 = v at *
      generalize bor z ((x * f + k) % 4294967296 + b) = b2 at *
      go_wp2_with fail
      go_roundg (gk - 1)
      case measure => have := HQ.out; omega
      case rel =>
        go_light
        rw [E1.out]
        exact ⟨i + 1, _, _, by have := HQ.out; omega, by go_num, rfl, rfl, ST.out⟩
    · obtain rfl : m = i := by omega
      have il : ¬ (m : Int) < m := by omega
      obtain ⟨c3, f3, ST⟩ := S.step 0 (by decide) hf (by rw [List.take_of_length_le (by rw [EY.out]; omega), List.take_of_length_le (by rw [EY.out]; omega), Nat.mul_zero, Nat.add_zero]) hz LZ.out
      rw [Nat.zero_mul, Nat.zero_add, Nat.div_eq_of_lt bk, Nat.mod_eq_of_lt bk] at ST
      have ST := Lib.hid ST
      have bz := LZ.out.at_ (o + m) hz
      generalize zs[o + m]'hz = z at *
      have KS := Lib.hid (sub32 z k b bz bk bb)
      generalize (z + 8589934592 - k - b) % 4294967296 = v at *
      generalize bor z (k + b) = b2 at *
      clear S hq HQ
      go_wp2_with fail
      refine (KS.out _).mono ?_
      rintro e w1 ⟨rfl, rfl⟩
      go_wp2_with fail
      go_ret
      exact ⟨b2, rfl, ST.out⟩
end Go.Proofs.YtnacokogihanoaaDoor
