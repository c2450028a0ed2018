/- The walk of addInto. -/
import Derived.Test.YtnacokogihanoaaDoorRow
namespace Go.Proofs.YtnacokogihanoaaDoor
open Go.RowKit

/-- The limbs of a slice can be read, each, while those ahead of it are written over at o in block g. -/
def Src (w : World) (g o : Nat) (zs : List Nat) (A : Option Addr) (xs : List Nat) : Prop :=
  ∀ (i : Nat) (h : i < xs.length) (ss : List Nat) (W : World), ss.length = i → Turn w W g → Row W g (zs.take o ++ ss ++ zs.drop (o + i)) → ∃ ad, A = some ad ∧ W.cell? (ad.add i) = some (lv xs[i])
theorem Src.far {w : World} {g o : Nat} {zs : List Nat} {A : Option Addr} {n c : Nat} {xs : List Nat} (l : Lim w A n c xs) (hne : ∀ ad, A = some ad → ad.block ≠ g) : Src w g o zs A xs :=
  fun i h _ _ _ t _ => (t.lim l hne).at_ i h
theorem Src.same {w : World} {g o n : Nat} {zs : List Nat} (hz : o + n ≤ zs.length) : Src w g o zs (some ⟨g, o, none⟩) ((zs.drop o).take n) := by
  intro i h ss W hs _ r
  refine ⟨_, rfl, ?_⟩
  rw [add_lit]
  have h' : o + i < zs.length := by simp at h; omega
  rw [r.cell' (part_at zs ss o i h' hs)]
  simp

/-- What is in the loops of addInto. -/
structure Sum (w : World) (g o : Nat) (zs xs ys : List Nat) (i k : Nat) (wr : World) : Prop where
  ss : ∃ ss, ss.length = i ∧ Lo ss ∧ val ss + B ^ i * k = val (xs.take i) + val (ys.take i) ∧ Row wr g (zs.take o ++ ss ++ zs.drop (o + i))
  k1 : k ≤ 1
  t : Turn w wr g

theorem Sum.drew {w : World} {g o : Nat} {zs xs ys : List Nat} {i k : Nat} {wr : World} (h : Sum w g o zs xs ys i k wr) : Sum w g o zs xs ys i k wr.drew := by
  obtain ⟨ss, a, b, c, r⟩ := h.ss
  exact ⟨⟨ss, a, b, c, r.drew⟩, h.k1, h.t.drew⟩
theorem u32_mod (x y k : Nat) : Value.int IntKind.u32 (((x : Int) + (y : Int) + (k : Int)) % 4294967296) = lv ((x + y + k) % 4294967296) := congrArg (Value.int .u32) (by omega)
theorem u32_mod2 (x k : Nat) : Value.int IntKind.u32 (((x : Int) + (k : Int)) % 4294967296) = lv ((x + k) % 4294967296) := congrArg (Value.int .u32) (by omega)
theorem sum_step {P s x y k v c : Nat} (h : v + P * k = s) (e : x + y + k = c) : v + P * (c % 4294967296) + P * 4294967296 * (c / 4294967296) = s + P * x + P * y := by
  have e2 : c = c % 4294967296 + 4294967296 * (c / 4294967296) := by omega
  have : P * c = P * (c % 4294967296) + P * 4294967296 * (c / 4294967296) := by
    conv => lhs; rw [e2, Nat.mul_add, ← Nat.mul_assoc]
  rw [Nat.add_assoc, ← this, ← e, ← h, Nat.mul_add, Nat.mul_add]
  omega
theorem Sum.step {w : World} {g o : Nat} {zs xs ys : List Nat} {i k : Nat} {wr : World} (h : Sum w g o zs xs ys i k wr) (x y : Nat) (hx : x < 4294967296) (hy : y < 4294967296)
    (ex : val (xs.take (i + 1)) = val (xs.take i) + B ^ i * x) (ey : val (ys.take (i + 1)) = val (ys.take i) + B ^ i * y) (hz : o + i < zs.length) :
    Sum w g o zs xs ys (i + 1) ((x + y + k) / 4294967296) (wr.setCell ⟨g, o + i, none⟩ (lv ((x + y + k) % 4294967296))) := by
  obtain ⟨ss, hl, lo, hv, r⟩ := h.ss
  have hk := h.k1
  refine ⟨⟨ss ++ [(x + y + k) % 4294967296], by simp [hl], lo.append (.cons (Nat.mod_lt _ (by decide)) .nil), ?_, ?_⟩, by omega, h.t.setCell _ _⟩
  · rw [val_snoc, hl, ex, ey, Nat.pow_succ]
    have := sum_step (c := x + y + k) hv (x := x) (y := y) rfl
    rw [← B_eq] at this
    rw [B_eq] at *
    omega
  · have := r.set_ (o + i) ((x + y + k) % 4294967296) (Nat.mod_lt _ (by decide))
    rwa [set_part zs ss _ o i hz hl] at this

set_option maxHeartbeats 2000000 in
set_option maxRecDepth 100000 in
theorem addInto_any {A A' : Option Addr} {g o ns cs n c n' c' : Nat} {zs xs ys : List Nat} {w : World} (hr : Row w g zs) (hx : Src w g o zs A xs) (lx : Lo xs) (ex : xs.length = n) (hy : Lim w A' n' c' ys)
    (hz : o + n ≤ zs.length) (hs : n ≤ ns) (hn : n' ≤ n) (hm : n ≤ 1000) (hne : ∀ ad, A' = some ad → 0 < n' → ad.block ≠ g) :
    Calls Tryd.prog 95 #[.slice (some ⟨g, o, none⟩) ns cs, .slice A n c, .slice A' n' c'] w fun e w' => ∃ k, e = .returned (lv k) ∧ Sum w g o zs xs ys n k w' := by
  have S0 : Sum w g o zs xs ys 0 0 w := ⟨⟨[], rfl, .nil, by simp [val_nil], by simpa using hr⟩, by omega, Turn.refl _ _⟩
  have HY := Lib.hid hy; have HX := Lib.hid hx; have EX := Lib.hid ex; have LX := Lib.hid lx; have HNE := Lib.hid hne
  have ey := hy.len
  have EY := Lib.hid ey
  clear hr hx lx ex hy hne ey
  go_enter Tryd.func95, Tryd.ntmps95
  go_wp2_with fail
  go_loopg [7, 12] n' (fun q s7 s12 wr => ∃ i k, i + q = n' ∧ s12 = .int .i64 (i : Int) ∧ s7 = lv k ∧ Sum w g o zs xs ys i k wr)
  case atStart => exact ⟨0, 0, by omega, rfl, rfl, S0⟩
  case round =>
    clear S0
    obtain ⟨i, k, hq, rfl, rfl, S⟩ := hrel
    have HQ := Lib.hid hq
    by_cases lt : i < n'
    · clear hq
      have il : (i : Int) < n' := by omega
      have il2 : (i : Int) < n := by omega
      have il3 : (i : Int) < ns := by omega
      have il0 : (0 : Int) ≤ i := by omega
      have i1 : i < xs.length := by rw [EX.out]; omega
      have i2 : i < ys.length := by rw [EY.out]; omega
      obtain ⟨ss, hl, lo, hv, r⟩ := S.ss
      obtain ⟨ad, rfl, c1⟩ := HX.out i i1 ss wr hl S.t r
      obtain ⟨ad', rfl, c2⟩ := (turn_lim S.t HY.out HNE.out).at_ i i2
      have c3 := r.cell' (part_at zs ss o i (by omega) hl)
      have f3 := r.melt (o + i)
      have bx := LX.out.at_ i i1
      have bY := HY.out.lo.at_ i i2
      have hk := S.k1
      have ST := Lib.hid (S.step xs[i] ys[i] bx bY (val_take_succ xs i i1) (val_take_succ ys i i2) (by omega))
      generalize xs[i] = x at *
      generalize ys[i] = y at *
      generalize zs[o + i]'(by omega) = z at *
      clear ss hl lo hv r S
      go_wp2_with fail
      go_region_with (first | (go_at_call 109; refine (add32 _ _ _ (by assumption) (by assumption) (by assumption) _).mono ?_; rintro e w1 ⟨rfl, rfl⟩))
      all_goals go_wp2_with fail
      all_goals go_roundg (gk - 1)
      case measure => have := HQ.out; omega
      case measure => have := HQ.out; omega
      all_goals go_light
      all_goals refine ⟨i + 1, _, by have := HQ.out; omega, by go_num, rfl, ?_⟩
      all_goals rw [u32_mod]
      all_goals exact ST.out.drew
    · obtain rfl : n' = i := by omega
      clear lt hq HQ
      have il : ¬ (n' : Int) < n' := by omega
      go_wp2_with fail
      go_loopg [7, 9] (n - n') (fun q s7 s9 wr => ∃ i k, i + q = n ∧ n' ≤ i ∧ s9 = .int .i64 (i : Int) ∧ s7 = lv k ∧ Sum w g o zs xs ys i k wr)
      case atStart => exact ⟨n', k, by omega, Nat.le_refl _, rfl, rfl, S⟩
      case round =>
        clear S
        obtain ⟨i, k, hq, hi, rfl, rfl, S⟩ := hrel
        have HQ := Lib.hid hq
        by_cases lt : i < n
        · clear hq il
          have il2 : (i : Int) < n := by omega
          have il3 : (i : Int) < ns := by omega
          have il0 : (0 : Int) ≤ i := by omega
          have i1 : i < xs.length := by rw [EX.out]; omega
          obtain ⟨ss, hl, lo, hv, r⟩ := S.ss
          obtain ⟨ad, rfl, c1⟩ := HX.out i i1 ss wr hl S.t r
          have c3 := r.cell' (part_at zs ss o i (by omega) hl)
          have f3 := r.melt (o + i)
          have bx := LX.out.at_ i i1
          have hk := S.k1
          have ST := Lib.hid (S.step xs[i] 0 bx (by omega) (val_take_succ xs i i1) (by rw [List.take_of_length_le (by rw [EY.out]; omega), List.take_of_length_le (by rw [EY.out]; omega), Nat.mul_zero, Nat.add_zero]) (by omega))
          generalize xs[i] = x at *
          generalize zs[o + i]'(by omega) = z at *
          clear ss hl lo hv r S
          have KA := Lib.hid (add32 x 0 k bx (by omega) hk)
          go_wp2_with fail
          refine (KA.out _).mono ?_
          rintro e w1 ⟨rfl, rfl⟩
          go_wp2_with fail
          go_roundg (gk - 1)
          case measure => have := HQ.out; omega
          case rel =>
            go_light
            have T := ST.out
            rw [Nat.add_zero] at T
            refine ⟨i + 1, _, by have := HQ.out; omega, by omega, by go_num, rfl, ?_⟩
            rw [u32_mod2]
            exact T
        · obtain rfl : n = i := by omega
          have il2 : ¬ (n : Int) < n := by omega
          go_wp2_with fail
          go_ret
          exact ⟨k, rfl, S⟩
end Go.Proofs.YtnacokogihanoaaDoor
