/- The document's answers: the walk of Sub. The document's answers: the walks of Right, Small, Cmp, Bits; told. The document's answers: the walk of Bits. The document's answers: the walk of Div. The document's answers: the walk of Gcd. The document's answers: the walk of Mul. The document's answers: the walks of Of, Text. The document's answers: the walk of Text. The document's answers for fractions: Small, Right, Reduce, big; told. Plain arithmetic of fractions: what is reduced, and what the laws of rat ask. What the laws ask of the five calls of rank, as one bundle: to be shown of the code that landed. A block of two cells that is written anew. rank's Cmp, Check, Rank. rank's Sort and Least; what the laws ask of the five calls. The document's copied and swap. The document's Lift. -/
import Derived.Test.YtnkhgkpijfohkaaJ05
import Derived.Test.YtnkhgkpijfohkaaJ04
import Derived.Laws.IdiomStrings
import Derived.Test.YtnkhgkpijfohkaaShelf
import Derived.Lib.SliceRun
import Derived.Test.YtnkhgkpijfohkaaJ00
namespace Go.Proofs.Ytnkhgkpijfohkaa
open Go.RowKit
set_option linter.unusedVariables false
set_option linter.unusedSimpArgs false

/-- What is in the loop of Sub. -/
structure Hsb (w : World) (g : Nat) (X Y : List Nat) (zs : List Value) (i k : Nat) (wr : World) : Prop where
  ss : ∃ ss, ss.length = i ∧ Ld ss ∧ hval (X.take i) + H16 ^ i * k = hval ss + hval (Y.take i) ∧ (0 < X.length → Hrow wr g (ss ++ X.drop i) zs)
  k1 : k ≤ 1
  t : Turn w wr g
section
variable {w : World} {g : Nat} {X Y : List Nat} {zs : List Value} {i k : Nat} {wr : World}
theorem Hsb.drew (h : Hsb w g X Y zs i k wr) : Hsb w g X Y zs i k wr.drew := by
  obtain ⟨ss, a, b, c, r⟩ := h.ss
  exact ⟨⟨ss, a, b, c, fun q => (r q).drew⟩, h.k1, h.t.drew⟩
theorem Hsb.cell (h : Hsb w g X Y zs i k wr) (hx : i < X.length) : wr.cell? ⟨g, i, none⟩ = some (.int .u64 (X[i] : Int)) ∧ wr.frozen? ⟨g, i, none⟩ = false := by
  obtain ⟨ss, a, b, c, r⟩ := h.ss
  exact ⟨(r (by omega)).cell' (mid_at X ss i hx a), (r (by omega)).melt _⟩
theorem Hsb.step (h : Hsb w g X Y zs i k wr) (hx : i < X.length) (hy : i < Y.length) (LX : Ld X) (LY : Ld Y) :
    Hsb w g X Y zs (i + 1) (1 - (65536 + X[i] - Y[i] - k) / 65536) (wr.setCell ⟨g, i, none⟩ (hv ((65536 + X[i] - Y[i] - k) % 65536))) := by
  obtain ⟨ss, hl, ld, hval_, r⟩ := h.ss
  have hk := h.k1
  have b1 := LX.at_ i hx
  have b2 := LY.at_ i hy
  refine ⟨⟨ss ++ [(65536 + X[i] - Y[i] - k) % 65536], by simp [hl], ld.append (.cons (Nat.mod_lt _ (by decide)) .nil), ?_, fun q => ?_⟩, by omega, h.t.setCell _ _⟩
  · rw [hval_snoc, hl, hval_take_succ X i hx, hval_take_succ Y i hy, Nat.pow_succ]
    have := hsb_step hval_ (hsb_limb X[i] Y[i] k b1 b2 hk)
    rw [H16_eq] at *
    omega
  · have := (r q).set_ i (by rw [mid_len X ss i (by omega) hl]; exact hx) ((65536 + X[i] - Y[i] - k) % 65536)
    rwa [mid_set X ss i _ hx hl] at this
theorem Hsb.done {T : Nat} (h : Hsb w g X Y zs T k wr) (hx : X.length = T) (hy : Y.length = T) (le : hval Y ≤ hval X) :
    ∃ ss, ss.length = T ∧ Ld ss ∧ hval ss = hval X - hval Y ∧ (0 < T → Hrow wr g ss zs) := by
  obtain ⟨ss, hl, ld, hv_, r⟩ := h.ss
  rw [List.take_of_length_le (by omega), List.take_of_length_le (by omega)] at hv_
  have e : ss ++ X.drop T = ss := by rw [List.drop_of_length_le (by omega), List.append_nil]
  rw [e, hx] at r
  refine ⟨ss, hl, ld, ?_, r⟩
  have l := hval_lt ld
  rw [hl] at l
  have hk := h.k1
  have : k = 0 ∨ k = 1 := by omega
  rcases this with rfl | rfl
  · omega
  · rw [Nat.mul_one] at hv_; omega
end
theorem u64_dif (x y k : Nat) (hx : x < 65536) (hy : y < 65536) (hk : k ≤ 1) : Value.int IntKind.u64 ((65536 + (x : Int) - (y : Int) - (k : Int)) % 65536) = hv ((65536 + x - y - k) % 65536) := congrArg (Value.int .u64) (by omega)
theorem sub_over (x y k : Nat) (hx : x < 65536) (hy : y < 65536) (hk : k ≤ 1) : 1 - (65536 + (x : Int) - (y : Int) - (k : Int)) / 65536 = ((1 - (65536 + x - y - k) / 65536 : Nat) : Int) := by omega

end Go.Proofs.Ytnkhgkpijfohkaa
namespace Go.Proofs.Ytnkhgkpijfohkaa
open Go.RowKit
set_option linter.unusedVariables false
set_option linter.unusedSimpArgs false

open Classical in
/-- Are limbs a natural's? -/
noncomputable def ntB (xs : List Nat) : Bool := decide (Nt xs)
theorem ntB_yes {xs : List Nat} (h : Nt xs) : ntB xs = true := by unfold ntB; simpa using h
theorem ntB_no {xs : List Nat} (h : ¬ Nt xs) : ntB xs = false := by unfold ntB; simpa using h

theorem nt_lim {w : World} {A : Option Addr} {n c : Nat} {xs : List Nat} (h : Lim w A n c xs) (k : Nt xs) : Lim w A n c (limbs (val xs)) ∧ ln (val xs) ≤ 64 := by
  refine ⟨k.eq h.lo ▸ h, ?_⟩
  unfold ln
  rw [← k.eq h.lo]
  exact k.1
end Go.Proofs.Ytnkhgkpijfohkaa
namespace Go.Proofs.Ytnkhgkpijfohkaa
open Go.RowKit
set_option linter.unusedVariables false
set_option linter.unusedSimpArgs false

theorem bl_step_one (a p : Nat) (h : a / 2 ^ p % 2 = 1) : bl (a % 2 ^ (p + 1)) = p + 1 := by
  have e := Nat.mod_pow_succ (b := 2) (k := p) (x := a)
  rw [h, Nat.mul_one] at e
  refine bl_of ?_ (Nat.mod_lt _ (Nat.two_pow_pos _))
  rw [e]; omega
theorem bl_step_zero (a p : Nat) (h : a / 2 ^ p % 2 = 0) : bl (a % 2 ^ (p + 1)) = bl (a % 2 ^ p) := by
  have e := Nat.mod_pow_succ (b := 2) (k := p) (x := a)
  rw [h, Nat.mul_zero] at e
  rw [e, Nat.add_zero]
theorem two_32 (i : Nat) : 2 ^ (32 * i) = B ^ i := by rw [Nat.pow_mul, B_eq]
theorem bit_limb {xs : List Nat} (lo : Lo xs) (i k : Nat) (hi : i < xs.length) (hk : k < 32) : val xs / 2 ^ (32 * i + k) % 2 = xs[i] / 2 ^ k % 2 := by
  have e := val_split xs i (by omega)
  rw [val_drop xs i hi] at e
  have l := val_lt (lo.take i)
  rw [List.length_take, Nat.min_eq_left (by omega)] at l
  have p : 0 < B ^ i := Nat.pow_pos B_pos
  have e1 : val xs / 2 ^ (32 * i) = xs[i] + B * val (xs.drop (i + 1)) := by
    rw [two_32, e, Nat.add_mul_div_left _ _ p, Nat.div_eq_of_lt l, Nat.zero_add]
  rw [Nat.pow_add, ← Nat.div_div_eq_div_mul, e1, B_eq, ← pow32 (s := k) (by omega), Nat.mul_assoc, Nat.add_mul_div_left _ _ (Nat.two_pow_pos k)]
  obtain ⟨d, hd⟩ : ∃ d, 32 - k = d + 1 := ⟨32 - k - 1, by omega⟩
  rw [hd, Nat.pow_succ, Nat.mul_comm (2 ^ d) 2, Nat.mul_assoc, Nat.add_mul_mod_self_left]
theorem bits_cast (x k : Nat) : (x : Int) / 2 ^ k = ((x / 2 ^ k : Nat) : Int) := by
  have e : (2 : Int) ^ k = ((2 ^ k : Nat) : Int) := by rw [Int.natCast_pow]; rfl
  rw [e]; rfl
theorem tmod_two (y : Nat) : (y : Int).tmod 2 = ((y % 2 : Nat) : Int) := (Int.ofNat_tmod y 2).symm
theorem mod_all (a : Nat) {n : Nat} (h : a < 2 ^ n) : a % 2 ^ n = a := Nat.mod_eq_of_lt h

end Go.Proofs.Ytnkhgkpijfohkaa
namespace Go.Proofs.Ytnkhgkpijfohkaa
open Go.RowKit
set_option linter.unusedVariables false
set_option linter.unusedSimpArgs false

theorem two_ln {r k : Nat} (h : ln r ≤ 64) (hk : k ≤ 1) : ln (2 * r + k) ≤ 65 := by
  refine ln_le ?_
  have a := lt_ln r
  have b := Nat.pow_le_pow_right B_pos h
  rw [show (65 : Nat) = 64 + 1 from rfl, Nat.pow_succ]
  have : B ^ 64 * 2 ≤ B ^ 64 * B := Nat.mul_le_mul_left _ (by rw [B_eq]; decide)
  omega
theorem sgn_nonneg {a b : Nat} (h : b ≤ a) : 0 ≤ sgn a b := by
  rcases Nat.lt_or_eq_of_le h with k | k
  · rw [sgn_gt k]; omega
  · rw [k, sgn_eq]; omega
/-- What is in the loop of Div. -/
structure Dvs (w : World) (a b g : Nat) (vq vr : Value) (wr : World) : Prop where
  q : ∃ A n c, vq = .slice A n c ∧ n ≤ 64 ∧ Lim wr A n c (limbs (a / 2 ^ g / b))
  r : ∃ A n c, vr = .slice A n c ∧ n ≤ 64 ∧ Lim wr A n c (limbs (a / 2 ^ g % b))
  bl : Below w.heap.size w wr
theorem quo32 (k : Nat) : (k : Int).tdiv 32 = ((k / 32 : Nat) : Int) := (Int.ofNat_tdiv k 32).symm
theorem rem32 (k : Nat) : (k : Int).tmod 32 = ((k % 32 : Nat) : Int) := (Int.ofNat_tmod k 32).symm

end Go.Proofs.Ytnkhgkpijfohkaa
namespace Go.Proofs.Ytnkhgkpijfohkaa
open Go.RowKit
set_option linter.unusedVariables false
set_option linter.unusedSimpArgs false

/-- A number of at most 64 limbs, as a slice. -/
def Ns (x : Nat) (v : Value) (wr : World) : Prop := ∃ A n c, v = .slice A n c ∧ n ≤ 64 ∧ Lim wr A n c (limbs x)
theorem Ns.next {x : Nat} {v : Value} {w w' : World} (h : Ns x v w) (hb : Below w.heap.size w w') : Ns x v w' := by
  obtain ⟨A, n, c, e, hn, l⟩ := h
  exact ⟨A, n, c, e, hn, l.next hb⟩
theorem Ns.mk {x : Nat} {A : Option Addr} {n c : Nat} {w : World} (h : Lim w A n c (limbs x)) (hx : ln x ≤ 64) : Ns x (.slice A n c) w := ⟨A, n, c, rfl, by rw [← h.len, limbs_length]; exact hx, h⟩
theorem ns_zero {x n : Nat} {A : Option Addr} {c : Nat} {w : World} (h : Lim w A n c (limbs x)) : x = 0 ↔ n = 0 := by
  have := h.len
  rw [limbs_length] at this
  constructor
  · rintro rfl; rw [← this, ln_zero]
  · rintro rfl; exact ln_eq_zero this
theorem bl_lnk {a k : Nat} (h : ln a ≤ k) : bl a ≤ 32 * k := bl_le (by rw [two_32]; exact Nat.lt_of_lt_of_le (lt_ln a) (Nat.pow_le_pow_right B_pos h))
theorem gcd_step {X y g : Nat} (hg : Nat.gcd X y = g) : (X < y → Nat.gcd (y - X) X = g) ∧ (¬ X < y → Nat.gcd (X - y) y = g) := by
  constructor
  · intro h
    rw [gcd_less y X (by omega), Nat.gcd_comm, hg]
  · intro h
    rw [gcd_less X y (by omega), hg]
theorem bl_half {x : Nat} (h : x ≠ 0) : bl (x / 2) + 1 = bl x := (bl_pos h).symm
theorem ln_half {x : Nat} (h : ln x ≤ 64) : ln (x / 2) ≤ 64 := Nat.le_trans (ln_mono (Nat.div_le_self _ _)) h
theorem pow_half (t g : Nat) : 2 ^ (t + 1) * g = 2 ^ t * (2 * g) := by rw [Nat.pow_succ, Nat.mul_assoc]

end Go.Proofs.Ytnkhgkpijfohkaa
namespace Go.Proofs.Ytnkhgkpijfohkaa
open Go.RowKit
set_option linter.unusedVariables false
set_option linter.unusedSimpArgs false

/-- A block of noughts, of 64 bits each. -/
@[irreducible] def zrow64 (n : Nat) : Obj := .cells ((List.replicate n 0).map hv).toArray 23
theorem Hrow.zeros (w : World) (n : Nat) : Hrow (w.alloc (zrow64 n)) w.heap.size (List.replicate n 0) [] := by
  unfold zrow64
  refine ⟨?_⟩
  rw [List.append_nil]
  exact heap_alloc_new w _
/-- What is in the loops of Mul. -/
structure Hpr (w : World) (g N : Nat) (X Y : List Nat) (x i j k : Nat) (wr : World) : Prop where
  ps : ∃ ps, ps.length = N ∧ Ld ps ∧ hval ps + H16 ^ (i + j) * k = hval (X.take i) * hval Y + H16 ^ i * x * hval (Y.take j) ∧ (∀ t, i + Y.length ≤ t → t < N → ps[t]? = some 0) ∧ Hrow wr g ps []
  kb : k < 65536
  t : Turn w wr g
section
variable {w : World} {g N : Nat} {X Y : List Nat} {x i j k : Nat} {wr : World}
theorem Hpr.drew (h : Hpr w g N X Y x i j k wr) : Hpr w g N X Y x i j k wr.drew := by
  obtain ⟨ps, a, b, c, d, r⟩ := h.ps
  exact ⟨⟨ps, a, b, c, d, r.drew⟩, h.kb, h.t.drew⟩
theorem Hpr.step (h : Hpr w g N X Y x i j k wr) (hx : x < 65536) (LY : Ld Y) (hj : j < Y.length) (hN : i + Y.length < N) :
    ∃ p : Nat, p < 65536 ∧ wr.cell? ⟨g, i + j, none⟩ = some (.int .u64 (p : Int)) ∧ wr.frozen? ⟨g, i + j, none⟩ = false ∧
      Hpr w g N X Y x i (j + 1) ((p + x * Y[j] + k) / 65536) (wr.setCell ⟨g, i + j, none⟩ (hv ((p + x * Y[j] + k) % 65536))) := by
  obtain ⟨ps, hl, ld, hv_, hz, r⟩ := h.ps
  have hk := h.kb
  have hy := LY.at_ j hj
  have hij : i + j < ps.length := by omega
  have hp := ld.at_ _ hij
  have hxy : x * Y[j] ≤ 65535 * 65535 := Nat.mul_le_mul (by omega) (by omega)
  refine ⟨ps[i + j], hp, r.cell _ hij, r.melt _, ⟨ps.set (i + j) ((ps[i + j] + x * Y[j] + k) % 65536), by simp [hl], ld_set ld _ _ (Nat.mod_lt _ (by decide)), ?_, ?_, r.set_ _ hij _⟩, ?_, h.t.setCell _ _⟩
  · have e := hval_set ps (i + j) ((ps[i + j] + x * Y[j] + k) % 65536) hij
    have := hpr_step hv_ e rfl
    rw [← Nat.add_assoc, Nat.pow_succ, hval_take_succ Y j hj]
    rw [show H16 ^ (i + j) * H16 = H16 ^ (i + j) * 65536 by rw [H16_eq]]
    rw [this, Nat.mul_add, Nat.pow_add, Nat.add_assoc]
    congr 1
    congr 1
    rw [Nat.mul_assoc, Nat.mul_assoc, Nat.mul_left_comm x]
  · intro t h1 h2
    rw [List.getElem?_set_ne (by omega)]
    exact hz t h1 h2
  · generalize x * Y[j] = q at *
    omega
theorem Hpr.turn (h : Hpr w g N X Y x i Y.length k wr) (hi : i < X.length) (hx : X[i] = x) (hN : i + Y.length < N) (x' : Nat) :
    wr.cell? ⟨g, i + Y.length, none⟩ = some (.int .u64 0) ∧ wr.frozen? ⟨g, i + Y.length, none⟩ = false ∧ Hpr w g N X Y x' (i + 1) 0 0 (wr.setCell ⟨g, i + Y.length, none⟩ (hv k)) := by
  obtain ⟨ps, hl, ld, hv_, hz, r⟩ := h.ps
  have hk := h.kb
  have h0 := hz (i + Y.length) (Nat.le_refl _) hN
  have hij : i + Y.length < ps.length := by omega
  have hp : ps[i + Y.length] = 0 := (List.getElem?_eq_some_iff.1 h0).2
  refine ⟨r.cell' h0, r.melt _, ⟨ps.set (i + Y.length) k, by simp [hl], ld_set ld _ _ hk, ?_, ?_, r.set_ _ hij _⟩, by omega, h.t.setCell _ _⟩
  · have e := hval_set ps (i + Y.length) k hij
    rw [hp, Nat.mul_zero, Nat.add_zero] at e
    rw [e, hv_, List.take_of_length_le (Nat.le_refl _), hval_take_succ X i hi, hx, Nat.add_mul, Nat.mul_zero, Nat.add_zero, List.take_zero, hval_nil, Nat.mul_zero, Nat.add_zero]
  · intro t h1 h2
    rw [List.getElem?_set_ne (by omega)]
    exact hz t (by omega) h2
end
theorem hcast_div (x y p k : Nat) : ((p : Int) + (x : Int) * (y : Int) + (k : Int)) / 65536 = (((p + x * y + k) / 65536 : Nat) : Int) := by
  rw [← Int.natCast_mul]; generalize x * y = q; omega
theorem hcast_mod (x y p k : Nat) : ((p : Int) + (x : Int) * (y : Int) + (k : Int)) % 65536 = (((p + x * y + k) % 65536 : Nat) : Int) := by
  rw [← Int.natCast_mul]; generalize x * y = q; omega

end Go.Proofs.Ytnkhgkpijfohkaa
namespace Go.Proofs.Ytnkhgkpijfohkaa
open Go.RowKit
set_option linter.unusedVariables false
set_option linter.unusedSimpArgs false

theorem four_halves (n : Nat) : hval [n % 65536, n / 65536 % 65536, n / 4294967296 % 65536, n / 281474976710656] = n := by
  simp only [hval_cons, hval_nil]
  rw [H16_eq]
  omega
end Go.Proofs.Ytnkhgkpijfohkaa
namespace Go.Proofs.Ytnkhgkpijfohkaa
open Go.RowKit
set_option linter.unusedVariables false
set_option linter.unusedSimpArgs false

theorem dtext_last {x : Nat} (h : x / 10 = 0) : dtext x = [dig (x % 10)] := by
  have e : x % 10 = x := by omega
  rw [e]
  by_cases hx : x = 0
  · rw [hx, dtext_zero]; rfl
  · rw [dtext_pos hx, tens_pos hx, h, tens_zero, e]; rfl
theorem dtext_step {x : Nat} (h : x / 10 ≠ 0) : dtext x = dtext (x / 10) ++ [dig (x % 10)] := by
  rw [dtext_pos h, dtext_pos (by omega), tens_pos (n := x) (by omega)]
  simp
theorem cat_cons (c : UInt8) (t : List UInt8) : (⟨#[c]⟩ ++ ⟨t.toArray⟩ : ByteArray) = ⟨(c :: t).toArray⟩ := by
  apply ByteArray.ext
  rw [ByteArray.data_append]
  simp
theorem hval_drop (X : List Nat) (k : Nat) (h : k < X.length) : hval (X.drop k) = X[k] + H16 * hval (X.drop (k + 1)) := by
  rw [List.drop_eq_getElem_cons h, hval_cons]
theorem take_set (X ss : List Nat) (i v : Nat) (h : i < X.length) : (X.take (i + 1) ++ ss).set i v = X.take i ++ (v :: ss) := by
  rw [List.take_succ_eq_append_getElem h, List.append_assoc, List.set_append_right _ _ (by simp; omega)]
  simp [Nat.min_eq_left (Nat.le_of_lt h)]
theorem take_at (X ss : List Nat) (i : Nat) (h : i < X.length) : (X.take (i + 1) ++ ss)[i]? = some X[i] := by
  rw [List.getElem?_append_left (by simp; omega), List.getElem?_take, if_pos (by omega), List.getElem?_eq_getElem h]
/-- What is in the inner loop of Text. -/
structure Tdv (w : World) (g : Nat) (X : List Nat) (zs : List Value) (i r : Nat) (wr : World) : Prop where
  ss : ∃ ss, ss.length + i = X.length ∧ Ld ss ∧ hval (X.drop i) = 10 * hval ss + r ∧ (0 < X.length → Hrow wr g (X.take i ++ ss) zs)
  r10 : r < 10
  t : Turn w wr g
section
variable {w : World} {g : Nat} {X : List Nat} {zs : List Value} {i r : Nat} {wr : World}
theorem Tdv.cell (h : Tdv w g X zs (i + 1) r wr) (hx : i < X.length) : wr.cell? ⟨g, i, none⟩ = some (.int .u64 (X[i] : Int)) ∧ wr.frozen? ⟨g, i, none⟩ = false := by
  obtain ⟨ss, a, b, c, q⟩ := h.ss
  exact ⟨(q (by omega)).cell' (take_at X ss i hx), (q (by omega)).melt _⟩
theorem Tdv.step (h : Tdv w g X zs (i + 1) r wr) (hx : i < X.length) (LX : Ld X) : Tdv w g X zs i ((65536 * r + X[i]) % 10) (wr.setCell ⟨g, i, none⟩ (hv ((65536 * r + X[i]) / 10))) := by
  obtain ⟨ss, a, b, c, q⟩ := h.ss
  have bx := LX.at_ i hx
  have br := h.r10
  refine ⟨⟨((65536 * r + X[i]) / 10) :: ss, by simp; omega, .cons (by omega) b, ?_, fun z => ?_⟩, Nat.mod_lt _ (by decide), h.t.setCell _ _⟩
  · rw [hval_drop X i hx, c, hval_cons, H16_eq]; omega
  · have := (q z).set_ i (by simp; omega) ((65536 * r + X[i]) / 10)
    rwa [take_set X ss i _ hx] at this
theorem Tdv.done (h : Tdv w g X zs 0 r wr) : ∃ ss, ss.length = X.length ∧ Ld ss ∧ hval X = 10 * hval ss + r ∧ (0 < X.length → Hrow wr g ss zs) := by
  obtain ⟨ss, a, b, c, q⟩ := h.ss
  exact ⟨ss, by omega, b, by simpa using c, fun z => by simpa using q z⟩
end
theorem u64_quo (r x : Nat) : Value.int IntKind.u64 ((65536 * (r : Int) + (x : Int)) / 10) = hv ((65536 * r + x) / 10) := congrArg (Value.int .u64) (by omega)
theorem u64_rem (r x : Nat) : Value.int IntKind.u64 ((65536 * (r : Int) + (x : Int)) % 10) = hv ((65536 * r + x) % 10) := congrArg (Value.int .u64) (by omega)
end Go.Proofs.Ytnkhgkpijfohkaa
namespace Go.Proofs.Ytnkhgkpijfohkaa
open Go.RowKit
set_option linter.unusedVariables false
set_option linter.unusedSimpArgs false

theorem addr_zero (ad : Addr) : ad.add 0 = ad := by unfold Addr.add; rw [if_pos rfl]
end Go.Proofs.Ytnkhgkpijfohkaa
namespace Go.Proofs.Ytnkhgkpijfohkaa
set_option linter.unusedVariables false

theorem red_scale {k x y : Nat} (hk : k ≠ 0) : red (k * x) (k * y) = red x y := by
  unfold red
  rw [Nat.gcd_mul_left, Nat.mul_div_mul_left _ _ (Nat.pos_of_ne_zero hk), Nat.mul_div_mul_left _ _ (Nat.pos_of_ne_zero hk)]
theorem red_self {p q : Nat} (h : Nat.gcd p q = 1) : red p q = (p, q, 0) := by
  unfold red
  rw [h, Nat.div_one, Nat.div_one]
/-- What is reduced, in letters. -/
theorem red_get (x y : Nat) (y0 : y ≠ 0) : ∃ g a b, g ≠ 0 ∧ x = g * a ∧ y = g * b ∧ red x y = (a, b, 0) ∧ b ≠ 0 ∧ Nat.gcd a b = 1 ∧ ln a ≤ ln x ∧ ln b ≤ ln y := by
  have hg : Nat.gcd x y ≠ 0 := fun z => y0 (Nat.eq_zero_of_gcd_eq_zero_right z)
  have e1 := Nat.mul_div_cancel' (Nat.gcd_dvd_left x y)
  have e2 := Nat.mul_div_cancel' (Nat.gcd_dvd_right x y)
  refine ⟨Nat.gcd x y, x / Nat.gcd x y, y / Nat.gcd x y, hg, e1.symm, e2.symm, rfl, fun z => y0 (by rw [← e2, z, Nat.mul_zero]), ?_, ln_mono (Nat.div_le_self _ _), ln_mono (Nat.div_le_self _ _)⟩
  have e3 : Nat.gcd (Nat.gcd x y * (x / Nat.gcd x y)) (Nat.gcd x y * (y / Nat.gcd x y)) = Nat.gcd x y * Nat.gcd (x / Nat.gcd x y) (y / Nat.gcd x y) := Nat.gcd_mul_left _ _ _
  rw [e1, e2] at e3
  exact Nat.eq_of_mul_eq_mul_left (Nat.pos_of_ne_zero hg) (by rw [← e3, Nat.mul_one])

/-- The fraction a over b is x over y, reduced; x has at most m limbs, y at most n. -/
structure Is (a b x y m n : Nat) : Prop where
  eq : red x y = (a, b, 0)
  g : ∃ g, g ≠ 0 ∧ x = g * a ∧ y = g * b
  y0 : y ≠ 0
  co : Nat.gcd a b = 1
  la : ln a ≤ m
  lb : ln b ≤ n
theorem Is.b0 {a b x y m n : Nat} (h : Is a b x y m n) : b ≠ 0 := by
  obtain ⟨g, _, _, e⟩ := h.g
  rintro rfl
  exact h.y0 (by rw [e, Nat.mul_zero])
theorem Is.fq {a b x y m n : Nat} (h : Is a b x y m n) (hm : m ≤ 64) (hn : n ≤ 64) : Fq a b := ⟨Nat.le_trans h.la hm, Nat.le_trans h.lb hn, h.b0, h.co⟩
theorem Is.self {p q m n : Nat} (h : Fq p q) (hm : ln p ≤ m) (hn : ln q ≤ n) : Is p q p q m n := ⟨red_self h.co, ⟨1, by decide, by omega, by omega⟩, h.q0, h.co, hm, hn⟩
theorem is_of {x y m n : Nat} (y0 : y ≠ 0) (hm : ln x ≤ m) (hn : ln y ≤ n) : ∃ a b, Is a b x y m n := by
  obtain ⟨g, a, b, g0, ex, ey, er, b0, co, la, lb⟩ := red_get x y y0
  exact ⟨a, b, er, ⟨g, g0, ex, ey⟩, y0, co, Nat.le_trans la hm, Nat.le_trans lb hn⟩
/-- One that is another's: the same. -/
theorem Is.same {a b x y m n c d x' y' m' n' : Nat} (h : Is a b x y m n) (h' : Is c d x' y' m' n') (e : x * y' = x' * y) : c = a ∧ d = b := by
  have k : red x y = red x' y' := by
    rw [← red_scale (x := x) (y := y) h'.y0, ← red_scale (x := x') (y := y') h.y0]
    rw [show y' * x = y * x' by grind, Nat.mul_comm y' y]
  rw [h.eq, h'.eq] at k
  injection k with k1 k2
  injection k2 with k2 k3
  exact ⟨k1.symm, k2.symm⟩
theorem Is.turn {a b x y m n x' y' : Nat} (h : Is a b x y m n) (y0 : y' ≠ 0) (e : x * y' = x' * y) : Is a b x' y' m n := by
  obtain ⟨c, d, k⟩ := is_of (x := x') (y := y') (m := ln x') (n := ln y') y0 (Nat.le_refl _) (Nat.le_refl _)
  obtain ⟨rfl, rfl⟩ := h.same k e
  exact ⟨k.eq, k.g, y0, k.co, h.la, h.lb⟩

section
variable {a b x y m n c d x' y' m' n' : Nat}
/-- The sum of two is that of what they are. -/
theorem Is.add (h : Is a b x y m n) (h' : Is c d x' y' m' n') (s : n + n' ≤ 64) (s1 : m + n' ≤ 63) (s2 : m' + n ≤ 63) : ∃ p q, addR a b c d = (p, q, 0) ∧ Is p q (x * y' + x' * y) (y * y') (max (m + n') (m' + n) + 1) (n + n') := by
  have l0 : ln (b * d) ≤ n + n' := ln_mul h.lb h'.lb
  have l1 : ln (a * d) ≤ m + n' := ln_mul h.la h'.lb
  have l2 : ln (c * b) ≤ m' + n := ln_mul h'.la h.lb
  have l3 : ln (a * d + c * b) ≤ max (m + n') (m' + n) + 1 := ln_add (Nat.le_trans l1 (Nat.le_max_left _ _)) (Nat.le_trans l2 (Nat.le_max_right _ _))
  obtain ⟨p, q, k⟩ := is_of (x := a * d + c * b) (y := b * d) (Nat.mul_ne_zero h.b0 h'.b0) l3 l0
  refine ⟨p, q, ?_, k.turn (Nat.mul_ne_zero h.y0 h'.y0) ?_⟩
  · rw [addR_yes (by omega) (by omega) (by omega) (by omega)]; exact k.eq
  · obtain ⟨g, _, rfl, rfl⟩ := h.g
    obtain ⟨g', _, rfl, rfl⟩ := h'.g
    grind
theorem Is.sub (h : Is a b x y m n) (h' : Is c d x' y' m' n') (s : n + n' ≤ 64) (s1 : m + n' ≤ 64) (s2 : m' + n ≤ 64) (le : x' * y ≤ x * y') : ∃ p q, subR a b c d = (p, q, 0) ∧ Is p q (x * y' - x' * y) (y * y') (m + n') (n + n') := by
  have l0 : ln (b * d) ≤ n + n' := ln_mul h.lb h'.lb
  have l1 : ln (a * d) ≤ m + n' := ln_mul h.la h'.lb
  have l2 : ln (c * b) ≤ m' + n := ln_mul h'.la h.lb
  have l3 : ln (a * d - c * b) ≤ m + n' := Nat.le_trans (ln_mono (Nat.sub_le _ _)) l1
  obtain ⟨p, q, k⟩ := is_of (x := a * d - c * b) (y := b * d) (Nat.mul_ne_zero h.b0 h'.b0) l3 l0
  have y0 := Nat.mul_ne_zero h.y0 h'.y0
  obtain ⟨g, g0, rfl, rfl⟩ := h.g
  obtain ⟨g', g0', rfl, rfl⟩ := h'.g
  have gg : g * g' ≠ 0 := Nat.mul_ne_zero g0 g0'
  have e1 : g * a * (g' * d) = g * g' * (a * d) := by grind
  have e2 : g' * c * (g * b) = g * g' * (c * b) := by grind
  have e3 : g * b * (g' * d) = g * g' * (b * d) := by grind
  rw [e1, e2] at le
  have le' : c * b ≤ a * d := Nat.le_of_mul_le_mul_left le (Nat.pos_of_ne_zero gg)
  refine ⟨p, q, ?_, k.turn y0 ?_⟩
  · rw [subR_yes (by omega) (by omega) (by omega) le']; exact k.eq
  · rw [e1, e2, e3, ← Nat.mul_sub]
    grind
theorem Is.low (h : Is a b x y m n) (h' : Is c d x' y' m' n') (s : n + n' ≤ 64) (s1 : m + n' ≤ 64) (s2 : m' + n ≤ 64) (lt : x * y' < x' * y) : subR a b c d = (0, 0, 1) := by
  have l0 : ln (b * d) ≤ n + n' := ln_mul h.lb h'.lb
  have l1 : ln (a * d) ≤ m + n' := ln_mul h.la h'.lb
  have l2 : ln (c * b) ≤ m' + n := ln_mul h'.la h.lb
  obtain ⟨g, g0, rfl, rfl⟩ := h.g
  obtain ⟨g', g0', rfl, rfl⟩ := h'.g
  have e1 : g * a * (g' * d) = g * g' * (a * d) := by grind
  have e2 : g' * c * (g * b) = g * g' * (c * b) := by grind
  rw [e1, e2] at lt
  exact subR_low (by omega) (by omega) (by omega) (Nat.lt_of_mul_lt_mul_left lt)
theorem Is.mul (h : Is a b x y m n) (h' : Is c d x' y' m' n') (s : n + n' ≤ 64) (s1 : m + m' ≤ 64) : ∃ p q, mulR a b c d = (p, q, 0) ∧ Is p q (x * x') (y * y') (m + m') (n + n') := by
  have l0 : ln (b * d) ≤ n + n' := ln_mul h.lb h'.lb
  have l1 : ln (a * c) ≤ m + m' := ln_mul h.la h'.la
  obtain ⟨p, q, k⟩ := is_of (x := a * c) (y := b * d) (Nat.mul_ne_zero h.b0 h'.b0) l1 l0
  refine ⟨p, q, ?_, k.turn (Nat.mul_ne_zero h.y0 h'.y0) ?_⟩
  · rw [mulR_yes (by omega) (by omega)]; exact k.eq
  · obtain ⟨g, _, rfl, rfl⟩ := h.g
    obtain ⟨g', _, rfl, rfl⟩ := h'.g
    grind
theorem Is.div (h : Is a b x y m n) (h' : Is c d x' y' m' n') (s : m + n' ≤ 64) (s1 : m' + n ≤ 64) (z : x' ≠ 0) : ∃ p q, divR a b c d = (p, q, 0) ∧ Is p q (x * y') (x' * y) (m + n') (m' + n) := by
  have l0 : ln (a * d) ≤ m + n' := ln_mul h.la h'.lb
  have l1 : ln (c * b) ≤ m' + n := ln_mul h'.la h.lb
  have y0 := Nat.mul_ne_zero z h.y0
  obtain ⟨g, g0, ex, ey⟩ := h.g
  obtain ⟨g', g0', ex', ey'⟩ := h'.g
  have c0 : c ≠ 0 := by rintro rfl; exact z (by rw [ex', Nat.mul_zero])
  obtain ⟨p, q, k⟩ := is_of (x := a * d) (y := c * b) (Nat.mul_ne_zero c0 h.b0) l0 l1
  refine ⟨p, q, ?_, k.turn y0 ?_⟩
  · rw [divR_yes c0 (by omega) (by omega)]; exact k.eq
  · subst ex ey ex' ey'
    grind
theorem sgn_scale {g u v : Nat} (g0 : g ≠ 0) : sgn (g * u) (g * v) = sgn u v :=
  sgn_congr (Nat.mul_lt_mul_left (Nat.pos_of_ne_zero g0)) (Nat.mul_lt_mul_left (Nat.pos_of_ne_zero g0))
theorem Is.cmp (h : Is a b x y m n) (h' : Is c d x' y' m' n') (s : m + n' ≤ 64) (s1 : m' + n ≤ 64) : cmpN a b c d = sgn (x * y') (x' * y) ∧ cmpE a b c d = 0 := by
  have l0 : ln (a * d) ≤ m + n' := ln_mul h.la h'.lb
  have l1 : ln (c * b) ≤ m' + n := ln_mul h'.la h.lb
  refine ⟨?_, cmpE_yes (by omega) (by omega)⟩
  rw [cmpN_yes (by omega) (by omega)]
  obtain ⟨g, g0, rfl, rfl⟩ := h.g
  obtain ⟨g', g0', rfl, rfl⟩ := h'.g
  have e1 : g * a * (g' * d) = g * g' * (a * d) := by grind
  have e2 : g' * c * (g * b) = g * g' * (c * b) := by grind
  rw [e1, e2, sgn_scale (Nat.mul_ne_zero g0 g0')]
end
/-- A fraction of at most 6 limbs, each. -/
structure F6 (p q : Nat) : Prop where
  f : Fq p q
  lp : ln p ≤ 6
  lq : ln q ≤ 6
theorem F6.is {p q : Nat} (h : F6 p q) : Is p q p q 6 6 := .self h.f h.lp h.lq

theorem laws_num {p q p' q' r s : Nat} (ha : F6 p q) (hb : F6 p' q') (hc : F6 r s) : ∃ x1 x2 y1 y2 z1 z2 m1 m2 u1 u2 v1 v2 t1 t2, addR p q p' q' = (x1, x2, 0) ∧ addR p' q' p q = (x1, x2, 0) ∧ Fq x1 x2 ∧ addR x1 x2 r s = (y1, y2, 0) ∧ addR p' q' r s = (z1, z2, 0) ∧ Fq z1 z2 ∧
    addR p q z1 z2 = (y1, y2, 0) ∧ mulR p q p' q' = (m1, m2, 0) ∧ mulR p' q' p q = (m1, m2, 0) ∧ mulR x1 x2 r s = (u1, u2, 0) ∧ mulR p q r s = (v1, v2, 0) ∧ Fq v1 v2 ∧ mulR p' q' r s = (t1, t2, 0) ∧ Fq t1 t2 ∧ addR v1 v2 t1 t2 = (u1, u2, 0) := by
  obtain ⟨x1, x2, ex, ix⟩ := ha.is.add hb.is (by decide) (by decide) (by decide)
  obtain ⟨x3, x4, ex', ix'⟩ := hb.is.add ha.is (by decide) (by decide) (by decide)
  obtain ⟨rfl, rfl⟩ := ix.same ix' (by grind)
  obtain ⟨y1, y2, ey, iy⟩ := ix.add hc.is (by decide) (by decide) (by decide)
  obtain ⟨z1, z2, ez, iz⟩ := hb.is.add hc.is (by decide) (by decide) (by decide)
  obtain ⟨y3, y4, ey', iy'⟩ := ha.is.add iz (by decide) (by decide) (by decide)
  obtain ⟨rfl, rfl⟩ := iy.same iy' (by grind)
  obtain ⟨m1, m2, em, im⟩ := ha.is.mul hb.is (by decide) (by decide)
  obtain ⟨m3, m4, em', im'⟩ := hb.is.mul ha.is (by decide) (by decide)
  obtain ⟨rfl, rfl⟩ := im.same im' (by grind)
  obtain ⟨u1, u2, eu, iu⟩ := ix.mul hc.is (by decide) (by decide)
  obtain ⟨v1, v2, ev, iv⟩ := ha.is.mul hc.is (by decide) (by decide)
  obtain ⟨t1, t2, et, it⟩ := hb.is.mul hc.is (by decide) (by decide)
  obtain ⟨u3, u4, eu', iu'⟩ := iv.add it (by decide) (by decide) (by decide)
  obtain ⟨rfl, rfl⟩ := iu.same iu' (by grind)
  exact ⟨_, _, _, _, _, _, _, _, _, _, _, _, _, _, ex, ex', ix.fq (by decide) (by decide), ey, ez, iz.fq (by decide) (by decide), ey', em, em', eu, ev, iv.fq (by decide) (by decide), et, it.fq (by decide) (by decide), eu'⟩
theorem back_num {p q p' q' : Nat} (ha : F6 p q) (hb : F6 p' q') : ∃ x1 x2 m1 m2, addR p q p' q' = (x1, x2, 0) ∧ Fq x1 x2 ∧ subR x1 x2 p' q' = (p, q, 0) ∧ mulR p q p' q' = (m1, m2, 0) ∧ Fq m1 m2 ∧ (p' ≠ 0 → divR m1 m2 p' q' = (p, q, 0)) ∧ (p' = 0 → x1 = p ∧ x2 = q) := by
  have q0 := hb.f.q0
  obtain ⟨x1, x2, ex, ix⟩ := ha.is.add hb.is (by decide) (by decide) (by decide)
  obtain ⟨d1, d2, ed, id⟩ := ix.sub hb.is (by decide) (by decide) (by decide) (by
    have : (p * q' + p' * q) * q' = p' * (q * q') + p * (q' * q') := by grind
    omega)
  obtain ⟨m1, m2, em, im⟩ := ha.is.mul hb.is (by decide) (by decide)
  have e : (p * q' + p' * q) * q' - p' * (q * q') = p * (q' * q') := by
    have : (p * q' + p' * q) * q' = p' * (q * q') + p * (q' * q') := by grind
    omega
  rw [e] at id
  obtain ⟨rfl, rfl⟩ := id.same ha.is (by grind)
  refine ⟨x1, x2, m1, m2, ex, ix.fq (by decide) (by decide), ed, em, im.fq (by decide) (by decide), fun z => ?_, fun z => ?_⟩
  · obtain ⟨e1, e2, ee, ie⟩ := im.div hb.is (by decide) (by decide) z
    obtain ⟨rfl, rfl⟩ := ie.same ha.is (by grind)
    exact ee
  · subst z
    obtain ⟨h1, h2⟩ := ix.same ha.is (by grind)
    exact ⟨h1.symm, h2.symm⟩
theorem middle_num {p q p' q' : Nat} (ha : F6 p q) (hb : F6 p' q') (le : p * q' ≤ p' * q) : ∃ s1 s2 m1 m2 x1 x2, addR p q p' q' = (s1, s2, 0) ∧ Fq s1 s2 ∧ divR s1 s2 2 1 = (m1, m2, 0) ∧ Fq m1 m2 ∧ subR m1 m2 p q = (x1, x2, 0) ∧ subR p' q' m1 m2 = (x1, x2, 0) := by
  have i2 : Is 2 1 2 1 1 1 := .self ⟨ln_tiny (by decide), ln_tiny (by decide), by decide, by decide⟩ (ln_le (by rw [B_eq]; decide)) (ln_le (by rw [B_eq]; decide))
  obtain ⟨d, hd⟩ := Nat.exists_eq_add_of_le le
  obtain ⟨s1, s2, es, is⟩ := ha.is.add hb.is (by decide) (by decide) (by decide)
  obtain ⟨m1, m2, em, im⟩ := is.div i2 (by decide) (by decide) (by decide)
  have e1 : (p * q' + p' * q) * 1 * q = p * (2 * (q * q')) + q * d := by grind
  have e2 : p' * (2 * (q * q')) = (p * q' + p' * q) * 1 * q' + q' * d := by grind
  obtain ⟨x1, x2, ex, ix⟩ := im.sub ha.is (by decide) (by decide) (by decide) (by omega)
  obtain ⟨y1, y2, ey, iy⟩ := hb.is.sub im (by decide) (by decide) (by decide) (by omega)
  rw [show (p * q' + p' * q) * 1 * q - p * (2 * (q * q')) = q * d by omega] at ix
  rw [show p' * (2 * (q * q')) - (p * q' + p' * q) * 1 * q' = q' * d by omega] at iy
  obtain ⟨rfl, rfl⟩ := ix.same iy (by grind)
  exact ⟨_, _, _, _, _, _, es, is.fq (by decide) (by decide), em, im.fq (by decide) (by decide), ex, ey⟩
theorem scale_num {p q N : Nat} (h : F6 p q) (n0 : N ≠ 0) : red (p * N) (q * N) = (p, q, 0) := by
  rw [Nat.mul_comm p, Nat.mul_comm q, red_scale n0]; exact red_self h.f.co
theorem same_num {p q p' q' : Nat} (ha : Fq p q) (hb : Fq p' q') : p * q' = p' * q ↔ p = p' ∧ q = q' := by
  refine ⟨fun e => ?_, fun ⟨a, b⟩ => by rw [a, b]⟩
  obtain ⟨a, b⟩ := (Is.self ha (Nat.le_refl _) (Nat.le_refl _)).same (Is.self hb (Nat.le_refl _) (Nat.le_refl _)) e
  exact ⟨a.symm, b.symm⟩
end Go.Proofs.Ytnkhgkpijfohkaa
namespace Go.Proofs.Ytnkhgkpijfohkaa
open Go.RowKit
/-- Check's answer. -/
def chk (x : It) : Int := if 64 < x.k.size then 5 else if x.w = 0 then 7 else 0
theorem chk_zero {x : It} : chk x = 0 ↔ x.k.size ≤ 64 ∧ 0 < x.w := by
  unfold chk; (repeat' split) <;> simp <;> omega
theorem chk_may {x : It} : chk x = 0 ↔ mayB x = true := by
  rw [chk_zero]; unfold mayB; simp
/-- Rank's answer. -/
def rnk (x : It) : Ans := if chk x = 0 then (x.u / Nat.gcd x.u x.w, x.w / Nat.gcd x.u x.w, 0) else (0, 0, chk x)
/-- The answer is a list. -/
def RetL (s : List It) (w : World) (e : Ending) (w' : World) : Prop := ∃ A c, e = .returned (.slice A s.length c) ∧ Its w' A s.length c s ∧ Below w.heap.size w w'
theorem May.of {l : List It} (h : l.all mayB = true) : May l := fun y hy => (chk_zero.1 (chk_may.2 (List.all_eq_true.1 h y hy))).2
end Go.Proofs.Ytnkhgkpijfohkaa
namespace Go.Proofs.Ytnkhgkpijfohkaa
open Go.RowKit
set_option linter.unusedVariables false
theorem Lies.set2 {W : World} {b : Nat} {B B' : Option Addr} {m k m' k' : Nat} (c0 : W.cell? ⟨b, 0, none⟩ = some (.slice B m k)) (c1 : W.cell? ⟨b, 1, none⟩ = some (.slice B' m' k')) (u' v' : Value) : ∀ {l : List (Option Addr × Nat × Nat × List Nat)}, Lies l W → Lies l ((W.setCell ⟨b, 0, none⟩ u').setCell ⟨b, 1, none⟩ v')
  | [], _ => trivial
  | (_, _, _, _) :: _, h => ⟨h.1.put2 c0 c1 _ _, Lies.set2 c0 c1 u' v' h.2⟩
theorem cels_keep {W : World} {b : Nat} (u' v' : Value) : ∀ {l : List (Nat × Value × Value)}, (∀ x ∈ l, x.1 ≠ b) → Cels l W → Cels l ((W.setCell ⟨b, 0, none⟩ u').setCell ⟨b, 1, none⟩ v')
  | [], _, _ => trivial
  | (c, _, _) :: _, hne, h => by
    have hc : c ≠ b := hne _ List.mem_cons_self
    exact ⟨⟨keep_set (keep_set h.1.1 _ hc) _ hc, keep_set (keep_set h.1.2.1 _ hc) _ hc, (World.frozen?_setCell _ _ _ _).trans ((World.frozen?_setCell _ _ _ _).trans h.1.2.2.1), (World.frozen?_setCell _ _ _ _).trans ((World.frozen?_setCell _ _ _ _).trans h.1.2.2.2.1), by simpa using h.1.2.2.2.2⟩, cels_keep u' v' (fun x hx => hne x (by simp [hx])) h.2⟩
theorem cels_app {W : World} : ∀ {p q : List (Nat × Value × Value)}, Cels (p ++ q) W ↔ Cels p W ∧ Cels q W
  | [], q => ⟨fun h => ⟨trivial, h⟩, fun h => h.2⟩
  | (_, _, _) :: p, q => by
    show _ ∧ Cels (p ++ q) W ↔ (_ ∧ Cels p W) ∧ Cels q W
    rw [cels_app]
    exact ⟨fun h => ⟨⟨h.1, h.2.1⟩, h.2.2⟩, fun h => ⟨h.1.1, h.1.2, h.2⟩⟩
/-- A block that is written anew. -/
theorem Fs.set {w W : World} {p q : List (Nat × Value × Value)} {l : List (Option Addr × Nat × Nat × List Nat)} {b : Nat} {B B' : Option Addr} {m k m' k' : Nat} (s : Fs w (p ++ (b, .slice B m k, .slice B' m' k') :: q) l W) (hb : w.heap.size ≤ b) (hne : ∀ x ∈ p ++ q, x.1 ≠ b) (u' v' : Value) :
    Fs w (p ++ (b, u', v') :: q) l ((W.setCell ⟨b, 0, none⟩ u').setCell ⟨b, 1, none⟩ v') := by
  obtain ⟨h1, h2⟩ := cels_app.1 s.cel
  obtain ⟨⟨c0, c1, m0, m1, sz⟩, h3⟩ := h2
  refine ⟨s.lie.set2 c0 c1 _ _, cels_app.2 ⟨cels_keep _ _ (fun x hx => hne x (by simp [hx])) h1, ⟨⟨?_, ?_, (World.frozen?_setCell _ _ _ _).trans ((World.frozen?_setCell _ _ _ _).trans m0), (World.frozen?_setCell _ _ _ _).trans ((World.frozen?_setCell _ _ _ _).trans m1), by simpa using sz⟩, cels_keep _ _ (fun x hx => hne x (by simp [hx])) h3⟩⟩, (s.bl.setCell hb _).setCell hb _⟩
  · rw [World.cell?_setCell_other _ _ _ _ (by simp)]
    exact World.cell?_setCell_same _ _ _ c0
  · exact World.cell?_setCell_same _ _ _ ((World.cell?_setCell_other _ _ _ _ (by simp)).trans c1)
end Go.Proofs.Ytnkhgkpijfohkaa
namespace Go.Proofs.Ytnkhgkpijfohkaa
open Go.RowKit
set_option linter.unusedVariables false
set_option linter.unusedSimpArgs false
set_option maxHeartbeats 2000000
set_option maxRecDepth 100000
theorem cmpBytes : ∀ x y : List UInt8, Lib.compareBytes x y = if Op.bytesLess x y = true then -1 else if Op.bytesLess y x = true then 1 else 0
  | [], [] => by simp [Lib.compareBytes, Op.bytesLess]
  | [], _ :: _ => by simp [Lib.compareBytes, Op.bytesLess]
  | _ :: _, [] => by simp [Lib.compareBytes, Op.bytesLess]
  | a :: x, b :: y => by
    rw [Lib.compareBytes, Op.bytesLess, Op.bytesLess, cmpBytes x y]
    by_cases h : a < b
    · simp [h]
    · by_cases k : b < a
      · have : ¬ a = b := by rintro rfl; exact h k
        simp [h, k, this]
      · have : a = b := by
          rw [UInt8.lt_iff_toNat_lt] at h k
          exact UInt8.toNat_inj.1 (by omega)
        subst this
        simp [h]
theorem cmpBytes_ksg (a b : ByteArray) : Lib.compareBytes a.data.toList b.data.toList = ksg a b := by
  rw [cmpBytes]
  unfold ksg
  rw [ByteArray.toList_eq, ByteArray.toList_eq]
theorem rankCmp_any : CmpOk := by
  intro a b ha hb w
  obtain ⟨ak, au, aw⟩ := a
  obtain ⟨bk, bu, bw⟩ := b
  have fa := ha.u; have fa2 := ha.w; have fb := hb.u; have fb2 := hb.w
  dsimp only at fa fa2 fb fb2
  have full : ∀ (x y : Nat), x < 18446744073709551616 → y < 18446744073709551616 → ∀ W : World, Calls Try.prog 38 #[.int .u64 (x : Int), .int .u64 (y : Int)] W fun e W' => e = .returned (Wd.U (x * y)) ∧ Below W.heap.size W W' := by
    intro x y hx hy W
    refine (Wd.full_any x y (Wd.word_nat hx) (Wd.word_nat hy) W).mono ?_
    rintro e W' ⟨rfl, c, rfl⟩
    exact ⟨by simp, (Below.refl _ _).alloc (Nat.le_refl _) _⟩
  have K1 := Lib.hid (fun W => full au bw fa fb2 W)
  have K2 := Lib.hid (fun W => full bu aw fb fa2 W)
  have KC : Hid (∀ W : World, Calls Try.prog 37 #[Wd.U (au * bw), Wd.U (bu * aw)] W fun e W' => e = .returned (.int .i64 (sgn (au * bw) (bu * aw))) ∧ Below W.heap.size W W') := by
    intro W
    refine (Wd.cmp_any (au * bw) (bu * aw) W).mono ?_
    rintro e W' ⟨rfl, c1, c2, rfl⟩
    exact ⟨by rw [sgn_same], ((Below.refl _ _).alloc (Nat.le_refl _) _).alloc (by simp) _⟩
  have KS : Hid (∀ W : World, Calls Try.prog 39 #[.string ak, .string bk] W fun e W' => e = .returned (.int .i64 (ksg ak bk)) ∧ W = W') := by
    intro W
    refine (Try.strings_Compare ak bk W).mono ?_
    rintro e W' ⟨rfl, rfl⟩
    exact ⟨by rw [cmpBytes_ksg], rfl⟩
  clear full
  have CS := Lib.hid (show cmpI ⟨ak, au, aw⟩ ⟨bk, bu, bw⟩ = if sgn (au * bw) (bu * aw) = 0 then ksg ak bk else sgn (au * bw) (bu * aw) by unfold cmpI; rfl)
  generalize au * bw = p at *
  generalize bu * aw = q at *
  generalize sgn p q = c at *
  clear fa fa2 fb fb2 ha hb
  have D := Duo.new w #[.string ak, .int .u64 (au : Int), .int .u64 (aw : Int)] #[.string bk, .int .u64 (bu : Int), .int .u64 (bw : Int)] 25 25
  obtain ⟨g, hg⟩ : ∃ g, w.heap.size = g := ⟨_, rfl⟩
  rw [hg] at D
  go_enter Try.func23, Try.ntmps23
  go_wp2_with fail
  clear hg
  generalize (w.alloc (.cells #[.string ak, .int .u64 (au : Int), .int .u64 (aw : Int)] 25)).alloc (.cells #[.string bk, .int .u64 (bu : Int), .int .u64 (bw : Int)] 25) = W at *
  generalize g + 1 = r at *
  obtain ⟨a0, a1, a2⟩ := D.bg.three
  obtain ⟨b0, b1, b2⟩ := D.br.three
  have BW := Lib.hid D.bl
  go_region_held3 (fun w' => w'.cell? ⟨g, 0, none⟩ = some (.string ak) ∧ w'.cell? ⟨g, 1, none⟩ = some (.int .u64 (au : Int)) ∧ w'.cell? ⟨g, 2, none⟩ = some (.int .u64 (aw : Int)) ∧ w'.cell? ⟨r, 0, none⟩ = some (.string bk) ∧ w'.cell? ⟨r, 1, none⟩ = some (.int .u64 (bu : Int)) ∧ w'.cell? ⟨r, 2, none⟩ = some (.int .u64 (bw : Int)))
    ((refine ⟨?_, ?_, ?_, ?_, ?_, ?_⟩ <;> (repeat (first | with_reducible exact a0 | with_reducible exact a1 | with_reducible exact a2 | with_reducible exact b0 | with_reducible exact b1 | with_reducible exact b2 | with_reducible refine keep_drew ?_ | with_reducible refine keep_cell (by assumption) ?_))))
    (first
      | (go_at_call 38; (with_reducible refine (K1.out _).mono ?_); rintro e z ⟨rfl, BZ⟩)
      | (go_at_call 38; (with_reducible refine (K2.out _).mono ?_); rintro e z ⟨rfl, BZ⟩)
      | (go_at_call 37; (with_reducible refine (KC.out _).mono ?_); rintro e z ⟨rfl, BZ⟩))
  rename_i z1 B1 z2 B2 H6
  have BL := Lib.hid (below_step (below_step (below_step BW.out.drew B1) B2) BZ)
  obtain ⟨e0, e1, e2, f0, f1, f2⟩ := H6
  clear a0 a1 a2 b0 b1 b2 e1 e2 f1 f2 B1 B2 BZ D K1 K2 KC
  by_cases hc : c = 0
  · rw [if_pos hc] at CS
    have hb : (c == 0) = true := by simpa using hc
    have hb2 : (c != 0) = false := by simpa using hc
    go_wp2_with fail
    refine (KS.out _).mono ?_
    rintro e z ⟨rfl, rfl⟩
    go_wp2_with fail
    go_ret
    exact ⟨by rw [CS.out]; rfl, BL.out⟩
  · rw [if_neg hc] at CS
    have hb : (c == 0) = false := by simpa using hc
    have hb2 : (c != 0) = true := by simpa using hc
    go_wp2_with fail
    go_ret
    exact ⟨by rw [CS.out]; rfl, BL.out⟩
theorem rankCheck_any (a : It) (w : World) : Calls Try.prog 17 #[itv a] w fun e w' => e = .returned (.int .i64 (chk a)) ∧ Below w.heap.size w w' := by
  obtain ⟨ak, au, aw⟩ := a
  have D := One.new w #[.string ak, .int .u64 (au : Int), .int .u64 (aw : Int)] 25
  obtain ⟨c0, c1, c2⟩ := D.bg.three
  have BL := Lib.hid D.bl
  by_cases h1 : 64 < ak.size
  · have l1 : (64 : Int) < ak.size := by omega
    have e : Hid (chk ⟨ak, au, aw⟩ = 5) := by unfold Hid chk; dsimp only; rw [if_pos h1]
    clear h1 D
    go_enter Try.func17, Try.ntmps17
    go_wp2_with fail
    go_ret
    exact ⟨by rw [e.out]; rfl, BL.out⟩
  · have l1 : ¬ (64 : Int) < ak.size := by omega
    by_cases h2 : aw = 0
    · have l2 : ((aw : Int) == 0) = true := by simpa using h2
      have e : Hid (chk ⟨ak, au, aw⟩ = 7) := by unfold Hid chk; dsimp only; rw [if_neg h1, if_pos h2]
      clear h1 h2 D
      go_enter Try.func17, Try.ntmps17
      go_wp2_with fail
      go_ret
      exact ⟨by rw [e.out]; rfl, BL.out⟩
    · have l2 : ((aw : Int) == 0) = false := by simpa using h2
      have e : Hid (chk ⟨ak, au, aw⟩ = 0) := by unfold Hid chk; dsimp only; rw [if_neg h1, if_neg h2]
      clear h1 h2 D
      go_enter Try.func17, Try.ntmps17
      go_wp2_with fail
      go_ret
      exact ⟨by rw [e.out]; rfl, BL.out⟩
theorem keep_set10 {w : World} {g r i j : Nat} {v : Value} (h : w.cell? ⟨g, i, none⟩ = some v) (u : Value) (hn : g ≠ r) : (w.setCell ⟨r, j, none⟩ u).cell? ⟨g, i, none⟩ = some v := by
  rw [World.cell?_of_block (w := w) (Below.heap_setCell w ⟨r, j, none⟩ u g hn)]; exact h
end Go.Proofs.Ytnkhgkpijfohkaa
namespace Go.Proofs.Ytnkhgkpijfohkaa
open Go.RowKit
set_option linter.unusedVariables false
set_option linter.unusedSimpArgs false
set_option maxHeartbeats 2000000
set_option maxRecDepth 100000
/-- A row that was made reads as a row that may be turned. -/
theorem Rw.row {b : Nat} {v : Value} {s : List It} {W : World} (h : Rw b v s W) : (v = .slice none 0 0 ∧ s = []) ∨ ∃ g cap, v = .slice (some ⟨g, 0, none⟩) s.length cap ∧ b ≤ g ∧ s.length ≤ cap ∧ cap ≤ 9223372036854775807 ∧ Row3 W ⟨g, 0, none⟩ s := by
  rcases h.own.2 with ⟨a, b⟩ | ⟨g, cap, cur, e, a, r, h1, h2, h3, h4⟩
  · exact .inl ⟨a, List.eq_nil_of_length_eq_zero b⟩
  · unfold maxLen at h2
    refine .inr ⟨g, cap, e, a, h1, by omega, ⟨⟨cur, _, r, fun i u hu => ?_⟩, rfl, h.fit⟩⟩
    have hi := (List.getElem?_eq_some_iff.1 hu).1
    rw [icells_len] at hi
    rw [← h4, List.getElem?_take_of_lt hi] at hu
    simpa using hu
theorem cloneI_any {A : Option Addr} {n c : Nat} {l : List It} {w : World} (h : Its w A n c l) (hn : n ≤ 100000) : Calls Try.prog 27 #[.slice A n c] w fun e w' => ∃ v, e = .returned v ∧ Rw w.heap.size v l w' ∧ Below w.heap.size w w' := by
  have q22 : ∀ (w : World) (a : Option Addr) (n c n' c' : Nat), (binOp .eql 22 (.slice a n c) (.slice none n' c')).run Try.prog w = .ok (.bool a.isNone) w := fun w a n c n' c' => Lib.run_eql_slice_nil w _ _ a n c n' c' Try.underlying22
  cases A with
  | none =>
    have h0 : n = 0 := by
      rcases Nat.eq_zero_or_pos n with k | k
      · exact k
      · obtain ⟨ad, _, e, _⟩ := h.read 0 k; cases e
    have e : l = [] := List.eq_nil_of_length_eq_zero (by rw [h.len]; exact h0)
    subst h0 e
    clear h
    go_enter Try.func27, Try.ntmps27
    go_wp2
    go_ret
    exact ⟨_, rfl, Rw.nil _ _, Below.refl _ _⟩
  | some ad =>
    have I := Lib.hid (h.alloc (.cells #[] 25))
    have R0 : Hid (Rw w.heap.size (.slice (some ⟨w.heap.size, 0, none⟩) 0 0) [] (w.alloc (.cells #[] 25))) := ⟨World.ownsRow_made w #[] 0 (Nat.le_refl _) (Nat.zero_le _) rfl, fun x hx => absurd hx (by simp)⟩
    have SM := Lib.hid (show ([] : List It).length + l.length ≤ 1000000 by rw [h.len]; simp only [List.length_nil]; omega)
    have HB := Lib.hid (show w.heap.size ≤ (w.alloc (.cells #[] 25)).heap.size by simp)
    clear h
    go_enter Try.func27, Try.ntmps27
    go_wp2_with (at_builtin; refine wpList_appI rfl _ _ rfl rfl R0.out HB.out rfl I.out (fun e => absurd e (by simp)) SM.out ?_)
    intro v' w1 R1 B1
    have BL := Lib.hid (((Below.refl w.heap.size w).alloc (Nat.le_refl _) (.cells #[] 25)).trans B1)
    replace R1 : Rw w.heap.size v' l w1 := by simpa using R1
    clear q22
    go_wp2
    go_ret
    exact ⟨_, rfl, R1, BL.out⟩
end Go.Proofs.Ytnkhgkpijfohkaa
namespace Go.Proofs.Ytnkhgkpijfohkaa
open Go.RowKit
set_option linter.unusedVariables false
set_option linter.unusedSimpArgs false
set_option maxHeartbeats 2000000
set_option maxRecDepth 100000
/-- The answer is a row of the call's own. -/
def NewS (n : Nat) (l : List It) (w : World) (e : Ending) (w' : World) : Prop := ∃ g cap, e = .returned (.slice (some ⟨g, 0, none⟩) n cap) ∧ w.heap.size ≤ g ∧ n ≤ cap ∧ cap ≤ 9223372036854775807 ∧ Row3 w' ⟨g, 0, none⟩ l ∧ Below w.heap.size w w'
theorem copied_any {ad : Addr} {n c : Nat} {l : List It} {w : World} (h : Its w (some ad) n c l) (h0 : 0 < n) (hn : n ≤ 100000) : Calls Try.prog 35 #[.slice (some ad) n c] w fun e w' => NewS n l w e w' := by
  have I := Lib.hid h
  have HL := Lib.hid h.len
  have SM := Lib.hid (show ([] : List It).length + l.length ≤ 1000000 by rw [h.len]; simp only [List.length_nil]; omega)
  have H0 := Lib.hid h0
  clear h h0
  go_enter Try.func35, Try.ntmps35
  go_wp2_with (at_builtin; refine wpList_appI rfl _ _ rfl rfl (Rw.nil w.heap.size w) (Nat.le_refl _) rfl I.out (fun e => absurd e (by simp)) SM.out ?_)
  intro v' w1 R1 B1
  replace R1 : Rw w.heap.size v' l w1 := by simpa using R1
  go_wp2
  go_ret
  rcases R1.row with ⟨_, hl⟩ | ⟨g, cap, hv, hg, h1, h2, R3⟩
  · have := HL.out; have := H0.out; rw [hl] at *; simp at *; omega
  · rw [HL.out] at hv h1
    exact ⟨g, cap, by rw [← hv]; rfl, hg, h1, h2, R3, B1⟩
theorem swap11_any {ad : Addr} {n c i k : Nat} {l : List It} {w : World} (h : Its w (some ad) n c l) (hi : i < n) (hk : k < n) (hik : i ≠ k) (hn : n ≤ 100000) : Calls Try.prog 34 #[.slice (some ad) n c, .int .i64 (i : Int), .int .i64 (k : Int)] w fun e w' => NewS n (swp l i k) w e w' := by
  have KC := Lib.hid (copied_any h (by omega) hn)
  have I := Lib.hid h
  have HL := Lib.hid h.len
  have IK := Lib.hid hik
  have i0 : (0 : Int) ≤ i := by omega
  have i1 : (i : Int) < n := by omega
  have k0 : (0 : Int) ≤ k := by omega
  have k1 : (k : Int) < n := by omega
  clear h hik
  go_enter Try.func34, Try.ntmps34
  go_wp2_with fail
  refine KC.out.mono ?_
  rintro e w1 ⟨g, cap, rfl, hg, h1, h2, R, B1⟩
  clear KC
  obtain ⟨ao, hao⟩ : ∃ a, a = (⟨g, 0, none⟩ : Addr) := ⟨_, rfl⟩
  rw [← hao] at R ⊢
  have HS := Lib.hid (show w.heap.size ≤ g ∧ n ≤ cap ∧ cap ≤ 9223372036854775807 from ⟨hg, h1, h2⟩)
  obtain ⟨q, hq, e1, x0, x1, x2, -⟩ := (I.out.next B1).read i hi
  obtain rfl := Option.some.inj e1
  obtain ⟨q', hq', e1, y0, y1, y2, -⟩ := (I.out.next B1).read k hk
  obtain rfl := Option.some.inj e1
  have li : i < l.length := by rw [HL.out]; exact hi
  have lk : k < l.length := by rw [HL.out]; exact hk
  rw [← nth_eq li] at x0 x1 x2
  rw [← nth_eq lk] at y0 y1 y2
  obtain ⟨fx0, fx1, fx2⟩ := R.melts (i * 3)
  obtain ⟨fy0, fy1, fy2⟩ := R.melts (k * 3)
  obtain ⟨z0, -, -⟩ := R.cell li
  obtain ⟨s1, s2, s3, s4, s5⟩ := R.stores li lk IK.out (nth l i) (nth l k)
  have TS := Lib.hid ((Tr.refl R).swap li lk).drew
  have BB := Lib.hid B1
  have HA := Lib.hid hao
  generalize nth l i = x at *
  generalize nth l k = y at *
  clear R hg h1 h2 hq hq' li lk hao B1
  go_wp2_with fail
  go_region
  clear s1 s2 s3 s4 s5 x0 x1 x2 y0 y1 y2 fx0 fx1 fx2 fy0 fy1 fy2 z0
  go_wp2_with fail
  go_ret
  have ha := HA.out
  refine ⟨g, cap, by rw [← ha]; rfl, HS.out.1, HS.out.2.1, HS.out.2.2, by rw [← ha]; exact TS.out.row, ?_⟩
  exact BB.out.trans (TS.out.below (by rw [ha]; exact HS.out.1) BB.out.size)
end Go.Proofs.Ytnkhgkpijfohkaa
namespace Go.Proofs.Ytnkhgkpijfohkaa
open Go.RowKit
set_option linter.unusedVariables false
set_option linter.unusedSimpArgs false
set_option maxHeartbeats 2000000
set_option maxRecDepth 100000
/-- The answer reads as a list of as many items. -/
def SomeL (n : Nat) (l : List It) (w : World) (e : Ending) (w' : World) : Prop := ∃ ad cap, e = .returned (.slice (some ad) n cap) ∧ Its w' (some ad) n cap l ∧ Below w.heap.size w w'
theorem NewS.some_ {n : Nat} {l : List It} {w w' : World} {e : Ending} (h : NewS n l w e w') (hl : l.length = n) : SomeL n l w e w' := by
  obtain ⟨g, cap, he, -, h1, h2, R, B⟩ := h
  exact ⟨_, cap, he, R.its hl h1 h2, B⟩
theorem lift11_any : ∀ (i : Nat) {ad : Addr} {n c : Nat} {l : List It} {w : World}, Its w (some ad) n c l → i < n → n ≤ 100000 → Calls Try.prog 18 #[.slice (some ad) n c, .int .i64 (i : Int)] w fun e w' => SomeL n (liftL l i) w e w' := by
  intro i
  induction i using Nat.strongRecOn with
  | _ i ih =>
    intro ad n c l w h hi hn
    have I := Lib.hid h
    have HL := Lib.hid h.len
    have KC := Lib.hid (fun x y (hx : It.Fit x) (hy : It.Fit y) W => refCmp10_any x y hx hy W)
    by_cases e : i = 0
    · subst e
      have E : Hid (liftL l 0 = l) := by unfold Hid liftL; rfl
      have z : ((0 : Int) == 0) = true := rfl
      clear h ih
      go_enter Try.func18, Try.ntmps18
      go_wp2_with fail
      go_region
      go_wp2_with fail
      go_ret
      refine ⟨ad, c, rfl, ?_, (Below.refl _ _).drew⟩
      rw [E.out]
      exact I.out.drew
    · obtain ⟨i', hi'⟩ : ∃ i', i = i' + 1 := ⟨i - 1, by omega⟩
      obtain ⟨j, hj⟩ : ∃ j, j = (i - 1) / 2 := ⟨_, rfl⟩
      have ji : j < i := by omega
      have e1 : ((i : Int) == 0) = false := by simpa using e
      have e2 : IntKind.i64.wrap ((i : Int) - 1) = (i' : Int) := by rw [IntKind.wrap_i64]; omega
      have e3 : Int.tdiv (i' : Int) 2 = (j : Int) := by rw [Int.tdiv_eq_ediv_of_nonneg (by omega)]; omega
      have e4 : (i' : Int) / 2 = (j : Int) := by omega
      have e5 : IntKind.i64.wrap (j : Int) = (j : Int) := by rw [IntKind.wrap_i64]; omega
      have p1 : (0 : Int) ≤ i := by omega
      have p2 : (i : Int) < n := by omega
      have p3 : (0 : Int) ≤ j := by omega
      have p4 : (j : Int) < n := by omega
      have il : i < l.length := by rw [HL.out]; exact hi
      have jl : j < l.length := by omega
      obtain ⟨q, hq, e6, x0, x1, x2, fx⟩ := h.read i hi
      obtain rfl := Option.some.inj e6
      obtain ⟨q', hq', e6, y0, y1, y2, fy⟩ := h.read j (by omega)
      obtain rfl := Option.some.inj e6
      rw [← nth_eq il] at x0 x1 x2 fx
      rw [← nth_eq jl] at y0 y1 y2 fy
      have LF : Hid (liftL l i = if cmpI (nth l i) (nth l j) ≤ 0 then l else liftL (swp l i j) j) := by
        unfold Hid
        rw [liftL, dif_neg e, ← hj]
      have KS := Lib.hid (fun (W : World) (hb : Below w.heap.size w W) => swap11_any (h.next hb) hi (show j < n by omega) (show i ≠ j by omega) hn)
      have IH := Lib.hid (fun (ad' : Addr) (c' : Nat) (W : World) (hh : Its W (some ad') n c' (swp l i j)) => ih j ji hh (by omega) hn)
      have SL := Lib.hid (show (swp l i j).length = n by rw [swp_len]; exact HL.out)
      have K := Lib.hid (KC.out (nth l i) (nth l j) fx fy)
      generalize cmpI (nth l i) (nth l j) = cc at *
      generalize nth l i = x at *
      generalize nth l j = y at *
      clear h ih hi' hj ji hq hq' il jl fx fy e
      go_enter Try.func18, Try.ntmps18
      go_wp2_with fail
      go_region_held3 (fun w' => w'.cell? (ad.add (i * 3)) = some (.string x.k) ∧ w'.cell? ⟨(ad.add (i * 3)).block, (ad.add (i * 3)).off + 1, none⟩ = some (.int .u64 (x.u : Int)) ∧ w'.cell? ⟨(ad.add (i * 3)).block, (ad.add (i * 3)).off + 2, none⟩ = some (.int .u64 (x.w : Int)) ∧
          w'.cell? (ad.add (j * 3)) = some (.string y.k) ∧ w'.cell? ⟨(ad.add (j * 3)).block, (ad.add (j * 3)).off + 1, none⟩ = some (.int .u64 (y.u : Int)) ∧ w'.cell? ⟨(ad.add (j * 3)).block, (ad.add (j * 3)).off + 2, none⟩ = some (.int .u64 (y.w : Int)))
        ((refine ⟨?_, ?_, ?_, ?_, ?_, ?_⟩ <;> (repeat (first | with_reducible exact x0 | with_reducible exact x1 | with_reducible exact x2 | with_reducible exact y0 | with_reducible exact y1 | with_reducible exact y2 | with_reducible refine keep_drew ?_ | with_reducible refine keep_cell (by assumption) ?_))))
        (first | (go_at_call 31; (with_reducible refine (K.out _).mono ?_); rintro e Zt ⟨rfl, BZ⟩))
      have BW := Lib.hid (below_step (Below.refl w.heap.size w).drew BZ)
      clear x0 x1 x2 y0 y1 y2 K BZ
      by_cases hc : cc ≤ 0
      · rw [if_pos hc] at LF
        have hb : decide (cc ≤ 0) = true := decide_eq_true hc
        go_wp2_with fail
        go_ret
        refine ⟨ad, c, rfl, ?_, BW.out⟩
        rw [LF.out]
        exact I.out.next BW.out
      · rw [if_neg hc] at LF
        have hb : decide (cc ≤ 0) = false := decide_eq_false hc
        have hc2 : ¬ cc ≤ 0 := hc
        go_wp2_with fail
        refine (KS.out _ BW.out).mono ?_
        rintro e w2 hs
        obtain ⟨a2, c2, rfl, I2, B2⟩ := hs.some_ SL.out
        have B2h := Lib.hid (below_step BW.out B2)
        have I2 := Lib.hid I2
        clear hs B2 KS
        go_wp2_with fail
        refine (IH.out _ _ _ I2.out).mono ?_
        rintro e w3 ⟨a3, c3, rfl, I3, B3⟩
        have B3h := Lib.hid (below_step B2h.out B3)
        clear B3
        go_wp2_with fail
        go_ret
        refine ⟨a3, c3, rfl, ?_, B3h.out⟩
        rw [LF.out]
        exact I3
end Go.Proofs.Ytnkhgkpijfohkaa
