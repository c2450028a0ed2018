/- Parts of a text; what stays unlike. -/
import Derived.Test.YtiombblclgkigaaSL
namespace Go.Proofs.Ytiombblclgkigaa

theorem eightsN_add : ∀ (a b : Nat) (v : V4) (l : List UInt8), eightsN (a + b) v l = eightsN b (eightsN a v l) (l.drop (8 * a))
  | 0, b, v, l => by simp [eightsN]
  | a + 1, b, v, l => by
    rw [show a + 1 + b = (a + b) + 1 by omega, eightsN, eightsN_add a b, eightsN, List.drop_drop, show 8 + 8 * a = 8 * (a + 1) by omega]
theorem eightsN_pre : ∀ (a : Nat) (v : V4) (l m : List UInt8), 8 * a ≤ l.length → eightsN a v (l ++ m) = eightsN a v l
  | 0, _, _, _, _ => rfl
  | a + 1, v, l, m, h => by
    rw [eightsN, eightsN, List.take_append_of_le_length (by omega), List.drop_append_of_le_length (by omega), eightsN_pre a _ _ _ (by rw [List.length_drop]; omega)]
theorem rest_app (l m : List UInt8) : (l ++ m).drop (8 * (l.length / 8)) = rest l ++ m := by
  unfold rest; rw [List.drop_append_of_le_length (by omega)]
theorem eights_app (v : V4) (l m : List UInt8) : eights (eights v l) (rest l ++ m) = eights v (l ++ m) := by
  have e : (l ++ m).length / 8 = l.length / 8 + (rest l ++ m).length / 8 := by
    rw [List.length_append, List.length_append, rest_len]; omega
  show eightsN _ (eightsN _ v l) _ = eightsN _ v (l ++ m)
  rw [e, eightsN_add, eightsN_pre (l.length / 8) v l m (by omega), rest_app]
theorem rest_rest (l m : List UInt8) : rest (rest l ++ m) = rest (l ++ m) := by
  have e : (l ++ m).length / 8 = l.length / 8 + (rest l ++ m).length / 8 := by
    rw [List.length_append, List.length_append, rest_len]; omega
  show (rest l ++ m).drop (8 * ((rest l ++ m).length / 8)) = (l ++ m).drop (8 * ((l ++ m).length / 8))
  rw [e, ← rest_app, List.drop_drop, Nat.mul_add]
theorem eights_few (v : V4) {l : List UInt8} (h : l.length < 8) : eights v l = v := by
  unfold eights; rw [Nat.div_eq_of_lt h]; rfl
theorem rest_few {l : List UInt8} (h : l.length < 8) : rest l = l := by
  unfold rest; rw [Nat.div_eq_of_lt h]; rfl
theorem eights_one (v : V4) {l : List UInt8} (h : l.length = 8) : eights v l = take8 v (num l) := by
  unfold eights; rw [h]; show eightsN 1 v l = _; rw [eightsN, eightsN, List.take_of_length_le (by omega)]
theorem rest_one {l : List UInt8} (h : l.length = 8) : rest l = [] := by
  unfold rest; rw [h]; exact List.drop_of_length_le (by omega)

theorem rl_toNat (x : BitVec 64) (k : Nat) (hk : k ≤ 64) : (rl x k).toNat = (x.toNat % 2 ^ (64 - k)) * 2 ^ k + x.toNat / 2 ^ (64 - k) := by
  have hx := x.isLt
  have hp : 2 ^ (64 - k) * 2 ^ k = 2 ^ 64 := by rw [← Nat.pow_add]; congr 1; omega
  have hd : x.toNat / 2 ^ (64 - k) < 2 ^ k := by
    rw [Nat.div_lt_iff_lt_mul (Nat.pow_pos (by decide)), Nat.mul_comm, hp]; exact hx
  have hm : x.toNat * 2 ^ k % 2 ^ 64 = 2 ^ k * (x.toNat % 2 ^ (64 - k)) := by
    rw [← hp, Nat.mul_mod_mul_right, Nat.mul_comm]
  unfold rl
  rw [BitVec.toNat_or, BitVec.toNat_shiftLeft, BitVec.toNat_ushiftRight, Nat.shiftLeft_eq, Nat.shiftRight_eq_div_pow, hm, ← Nat.two_pow_add_eq_or_of_lt hd, Nat.mul_comm]
theorem rl_inj {x y : BitVec 64} {k : Nat} (hk : k ≤ 64) (h : rl x k = rl y k) : x = y := by
  have e := congrArg BitVec.toNat h
  rw [rl_toNat x k hk, rl_toNat y k hk] at e
  have hp : 2 ^ (64 - k) * 2 ^ k = 2 ^ 64 := by rw [← Nat.pow_add]; congr 1; omega
  have hd : ∀ z : BitVec 64, z.toNat / 2 ^ (64 - k) < 2 ^ k := fun z => by
    rw [Nat.div_lt_iff_lt_mul (Nat.pow_pos (by decide)), Nat.mul_comm, hp]; exact z.isLt
  have e1 := congrArg (· % 2 ^ k) e
  have e2 := congrArg (· / 2 ^ k) e
  simp only [Nat.mul_add_mod_self_right, Nat.mod_eq_of_lt (hd _)] at e1
  have hpos : 0 < 2 ^ k := Nat.pow_pos (by decide)
  simp only [Nat.mul_comm _ (2 ^ k), Nat.mul_add_div hpos, Nat.div_eq_of_lt (hd _), Nat.add_zero] at e2
  apply BitVec.eq_of_toNat_eq
  rw [← Nat.div_add_mod x.toNat (2 ^ (64 - k)), ← Nat.div_add_mod y.toNat (2 ^ (64 - k)), e1, e2]
theorem xor_right {x y z : BitVec 64} (h : x ^^^ z = y ^^^ z) : x = y := by
  have := congrArg (· ^^^ z) h
  simpa [BitVec.xor_assoc] using this
theorem add_right {x y z : BitVec 64} (h : x + z = y + z) : x = y := by
  have := congrArg (· - z) h
  simpa [BitVec.add_sub_cancel] using this
theorem turn_inj {u v : V4} (h : turn u = turn v) : u = v := by
  obtain ⟨a, b, c, d⟩ := u
  obtain ⟨a', b', c', d'⟩ := v
  unfold turn at h
  simp only [V4.mk.injEq] at h
  obtain ⟨ha, hb, hc, hd⟩ := h
  replace hc := rl_inj (by decide) hc
  rw [hc] at hb
  replace hb := rl_inj (by decide) (xor_right hb)
  rw [hb] at hc
  replace hc := add_right hc
  rw [ha] at hd
  replace hd := rl_inj (by decide) (xor_right hd)
  rw [hd] at ha
  replace ha := rl_inj (by decide) (add_right ha)
  rw [hc] at hd
  replace hd := rl_inj (by decide) (xor_right hd)
  subst hd
  replace hc := add_right hc
  rw [ha] at hb
  replace hb := rl_inj (by decide) (xor_right hb)
  subst hb
  replace ha := add_right ha
  subst ha hc
  rfl
theorem take8_inj {u v : V4} {n : BitVec 64} (h : take8 u n = take8 v n) : u = v := by
  obtain ⟨a, b, c, d⟩ := u
  obtain ⟨a', b', c', d'⟩ := v
  unfold take8 at h
  simp only [V4.mk.injEq] at h
  obtain ⟨h1, h2, h3, h4⟩ := h
  have e : turn (turn ⟨a, b, c, d ^^^ n⟩) = turn (turn ⟨a', b', c', d' ^^^ n⟩) := by
    generalize turn (turn ⟨a, b, c, d ^^^ n⟩) = x at *
    generalize turn (turn ⟨a', b', c', d' ^^^ n⟩) = y at *
    obtain ⟨x1, x2, x3, x4⟩ := x
    obtain ⟨y1, y2, y3, y4⟩ := y
    simp only at h1 h2 h3 h4
    rw [xor_right h1, h2, h3, h4]
  have := turn_inj (turn_inj e)
  simp only [V4.mk.injEq] at this
  obtain ⟨rfl, rfl, rfl, h⟩ := this
  rw [xor_right h]
end Go.Proofs.Ytiombblclgkigaa
