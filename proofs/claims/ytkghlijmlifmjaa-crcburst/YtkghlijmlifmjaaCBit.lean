/- Bits of texts that are turned; what four bytes tell. -/
import Derived.Test.YtkghlijmlifmjaaCTxt
namespace Go.Proofs.Ytkghlijmlifmjaa

theorem val_get : ∀ (l : List Bool) (i : Nat), i < 32 → (val l).getLsbD i = l.getD i false
  | [], i, _ => by simp [val]
  | b :: r, 0, _ => by
    rw [val, BitVec.getLsbD_xor, BitVec.getLsbD_shiftLeft]
    cases b <;> simp [bit]
  | b :: r, i + 1, h => by
    have ih := val_get r i (by omega)
    have hb : (bit b).getLsbD (i + 1) = false := by
      cases b
      · simp [bit]
      · have : ∀ k : Fin 31, (1#32).getLsbD (k.val + 1) = false := by decide
        exact this ⟨i, by omega⟩
    rw [val, BitVec.getLsbD_xor, BitVec.getLsbD_shiftLeft, hb, Bool.false_xor]
    simp only [h, decide_true, Bool.true_and, show ¬ i + 1 < 1 by omega, decide_false, Bool.not_false, Nat.add_sub_cancel]
    rw [ih]; rfl
theorem val_inj {l m : List Bool} (h : l.length = m.length) (hl : l.length ≤ 32) (e : val l = val m) : l = m := by
  apply List.ext_getElem h
  intro i h1 h2
  have := congrArg (BitVec.getLsbD · i) e
  simp only [val_get _ i (by omega)] at this
  simpa [List.getD, List.getElem?_eq_getElem h1, List.getElem?_eq_getElem h2] using this
theorem bits8_inj {a b : UInt8} (h : bits8 a = bits8 b) : a = b := by
  have e := congrArg val h
  rw [val_bits8, val_bits8] at e
  have := congrArg BitVec.toNat e
  have ha := a.toNat_lt; have hb := b.toNat_lt
  rw [BitVec.toNat_ofNat, BitVec.toNat_ofNat, Nat.mod_eq_of_lt (by omega), Nat.mod_eq_of_lt (by omega)] at this
  exact UInt8.toNat_inj.1 this
theorem bitsOf_cons (b : UInt8) (l : List UInt8) : bitsOf (b :: l) = bits8 b ++ bitsOf l := List.flatMap_cons
theorem bitsOf_inj : ∀ {l m : List UInt8}, l.length = m.length → bitsOf l = bitsOf m → l = m
  | [], [], _, _ => rfl
  | [], _ :: _, h, _ => by simp at h
  | _ :: _, [], h, _ => by simp at h
  | a :: l, b :: m, h, e => by
    rw [bitsOf_cons, bitsOf_cons] at e
    obtain ⟨e1, e2⟩ := List.append_inj e (by rw [bits8_len, bits8_len])
    rw [bits8_inj e1, bitsOf_inj (by simpa using h) e2]
/-- Texts that are the same but for their last four bytes. -/
theorem last_four {x : BitVec 32} {l a b : List UInt8} (ha : a.length = 4) (hb : b.length = 4) : upd x (l ++ a) = upd x (l ++ b) ↔ a = b := by
  refine ⟨fun h => ?_, fun h => by rw [h]⟩
  exact bitsOf_inj (ha.trans hb.symm) (val_inj (by rw [bitsOf_len, bitsOf_len, ha, hb]) (by rw [bitsOf_len, ha]; decide) (last ha hb h))
theorem bitsOf_get : ∀ (l : List UInt8) (k : Nat) (h : k < (bitsOf l).length) (h' : k / 8 < l.length), (bitsOf l)[k] = (l[k / 8]).toNat.testBit (k % 8)
  | [], k, _, h' => by simp at h'
  | b :: l, k, h, h' => by
    by_cases h8 : k < 8
    · have e0 : k / 8 = 0 := by omega
      have e1 : k % 8 = k := by omega
      have : (bitsOf (b :: l))[k]? = some (b.toNat.testBit k) := by
        rw [bitsOf_cons, List.getElem?_append_left (by rw [bits8_len]; exact h8)]
        unfold bits8
        rw [List.getElem?_map, List.getElem?_range h8]; rfl
      rw [List.getElem?_eq_getElem h] at this
      rw [Option.some.inj this]
      simp only [e0, e1, List.getElem_cons_zero]
    · have hk : k - 8 < (bitsOf l).length := by rw [bitsOf_cons, List.length_append, bits8_len] at h; omega
      have hj : (k - 8) / 8 < l.length := by rw [bitsOf_len] at hk; omega
      have ih := bitsOf_get l (k - 8) hk hj
      have : (bitsOf (b :: l))[k]? = some ((bitsOf l)[k - 8]) := by
        rw [bitsOf_cons, List.getElem?_append_right (by rw [bits8_len]; omega), bits8_len, List.getElem?_eq_getElem hk]
      rw [List.getElem?_eq_getElem h] at this
      rw [Option.some.inj this, ih, show (k - 8) % 8 = k % 8 by omega]
      have e : k / 8 = (k - 8) / 8 + 1 := by omega
      simp only [e, List.getElem_cons_succ]
/-- One bit turned. -/
theorem turned (l : List UInt8) (k : Nat) (hk : k / 8 < l.length) (m : UInt8) (hm : m.toNat = 2 ^ (k % 8)) (j : Nat) (h1 : j < (bitsOf (l.set (k / 8) (l[k / 8] ^^^ m))).length) (h2 : j < (bitsOf l).length) :
    (bitsOf (l.set (k / 8) (l[k / 8] ^^^ m)))[j] = ((bitsOf l)[j] ^^ decide (j = k)) := by
  have hj : j / 8 < l.length := by rw [bitsOf_len] at h2; omega
  rw [bitsOf_get _ _ h1 (by rw [List.length_set]; exact hj), bitsOf_get _ _ h2 hj, List.getElem_set]
  by_cases e : k / 8 = j / 8
  · rw [if_pos e, UInt8.toNat_xor, Nat.testBit_xor, hm, Nat.testBit_two_pow]
    simp only [e]
    congr 1
    apply decide_eq_decide.2
    omega
  · rw [if_neg e]
    have : decide (j = k) = false := decide_eq_false (by omega)
    rw [this, Bool.xor_false]
/-- So many bits of w turned, from a place on. -/
def Turned (s : List UInt8) (w : BitVec 32) (f i : Nat) (t : List UInt8) : Prop :=
  t.length = s.length ∧ ∀ (j : Nat) (h1 : j < (bitsOf t).length) (h2 : j < (bitsOf s).length), (bitsOf t)[j] = ((bitsOf s)[j] ^^ (decide (f ≤ j ∧ j < f + i) && w.getLsbD (j - f)))
theorem Turned.zero (s : List UInt8) (w : BitVec 32) (f : Nat) : Turned s w f 0 s := ⟨rfl, fun j h1 h2 => by
  have : decide (f ≤ j ∧ j < f + 0) = false := decide_eq_false (by omega)
  rw [this, Bool.false_and, Bool.xor_false]⟩
theorem Turned.stay {s t : List UInt8} {w : BitVec 32} {f i : Nat} (h : Turned s w f i t) (hw : w.getLsbD i = false) : Turned s w f (i + 1) t := ⟨h.1, fun j h1 h2 => by
  rw [h.2 j h1 h2]
  congr 1
  by_cases e : j = f + i
  · subst e
    rw [Nat.add_sub_cancel_left, hw, Bool.and_false, Bool.and_false]
  · congr 1
    apply decide_eq_decide.2
    omega⟩
theorem Turned.turn {s t : List UInt8} {w : BitVec 32} {f i : Nat} (h : Turned s w f i t) (hw : w.getLsbD i = true) (hk : (f + i) / 8 < t.length) (m : UInt8) (hm : m.toNat = 2 ^ ((f + i) % 8)) :
    Turned s w f (i + 1) (t.set ((f + i) / 8) (t[(f + i) / 8] ^^^ m)) := ⟨by rw [List.length_set, h.1], fun j h1 h2 => by
  have h3 : j < (bitsOf t).length := by rw [bitsOf_len, h.1, ← bitsOf_len]; exact h2
  rw [turned t (f + i) hk m hm j h1 h3, h.2 j h3 h2, Bool.xor_assoc]
  congr 1
  by_cases e : j = f + i
  · subst e
    have e1 : decide (f ≤ f + i ∧ f + i < f + i) = false := decide_eq_false (by omega)
    have e2 : decide (f ≤ f + i ∧ f + i < f + (i + 1)) = true := decide_eq_true (by omega)
    rw [e1, e2, Nat.add_sub_cancel_left, hw]; simp
  · have e1 : decide (j = f + i) = false := decide_eq_false e
    rw [e1, Bool.xor_false]
    congr 1
    apply decide_eq_decide.2
    omega⟩
/-- All 32: the sums are unlike. -/
theorem Turned.unlike {s t : List UInt8} {w : BitVec 32} {f : Nat} (h : Turned s w f 32 t) (hw : w ≠ 0#32) (hf : f + 32 ≤ 8 * s.length) (x : BitVec 32) : upd x t ≠ upd x s := by
  rw [upd_run, upd_run]
  have hl : (bitsOf t).length = (bitsOf s).length := by rw [bitsOf_len, bitsOf_len, h.1]
  have dl : ((List.range 32).map w.getLsbD).length = 32 := by simp
  refine burst (d := (List.range 32).map w.getLsbD) (n := f) (k := 8 * s.length - (f + 32)) hl (by rw [dl]; exact Nat.le_refl _) (fun e => hw ?_) ?_
  · apply BitVec.eq_of_getLsbD_eq
    intro i hi
    have := congrArg (BitVec.getLsbD · i) e
    simp only [val_get _ i hi] at this
    rw [List.getD, List.getElem?_map, List.getElem?_range hi] at this
    exact this
  · apply List.ext_getElem
    · rw [List.length_zipWith, hl, Nat.min_self, bitsOf_len, List.length_append, List.length_append, List.length_replicate, List.length_replicate, dl]; omega
    · intro j h1 h2
      have j2 : j < (bitsOf s).length := by rw [List.length_zipWith, hl, Nat.min_self] at h1; exact h1
      rw [List.getElem_zipWith, h.2 j (by rw [hl]; exact j2) j2]
      have ex : ∀ a b : Bool, ((a ^^ b) ^^ a) = b := by decide
      rw [ex]
      by_cases c1 : j < f
      · rw [List.getElem_append_left (by rw [List.length_replicate]; exact c1), List.getElem_replicate]
        have : decide (f ≤ j ∧ j < f + 32) = false := decide_eq_false (by omega)
        rw [this, Bool.false_and]
      · rw [List.getElem_append_right (by rw [List.length_replicate]; omega)]
        simp only [List.length_replicate]
        by_cases c2 : j < f + 32
        · rw [List.getElem_append_left (by rw [dl]; omega), List.getElem_map, List.getElem_range]
          have : decide (f ≤ j ∧ j < f + 32) = true := decide_eq_true (by omega)
          rw [this, Bool.true_and]
        · rw [List.getElem_append_right (by rw [dl]; omega), List.getElem_replicate]
          have : decide (f ≤ j ∧ j < f + 32) = false := decide_eq_false (by omega)
          rw [this, Bool.false_and]
end Go.Proofs.Ytkghlijmlifmjaa
