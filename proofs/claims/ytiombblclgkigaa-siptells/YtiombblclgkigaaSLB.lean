/- The number of an eight, as the document makes it. -/
import Derived.Test.YtiombblclgkigaaSL
namespace Go.Proofs.Ytiombblclgkigaa

/-- What stands at place j of the eight that begins at a: a byte, a nought, or how many there are. -/
def cb (l : List UInt8) (a j : Nat) : UInt8 := if h : a + j < l.length then l[a + j] else if j = 7 then UInt8.ofNat (l.length % 256) else 0
def blk (l : List UInt8) (a j : Nat) : BitVec 64 := num ((List.range j).map (cb l a))
theorem blk_zero (l : List UInt8) (a : Nat) : blk l a 0 = 0#64 := by unfold blk; exact num_nil
theorem blk_succ (l : List UInt8) (a j : Nat) (h : j < 8) : blk l a (j + 1) = blk l a j ||| BitVec.ofNat 64 (cb l a j).toNat <<< (8 * j) := by
  unfold blk
  rw [List.range_succ, List.map_append, List.map_singleton, num_snoc _ (by simpa using h), List.length_map, List.length_range]
theorem cb_in {l : List UInt8} {a j : Nat} (h : a + j < l.length) : cb l a j = l[a + j] := by unfold cb; rw [dif_pos h]
theorem cb_last {l : List UInt8} {a : Nat} (h : ¬ a + 7 < l.length) : cb l a 7 = UInt8.ofNat (l.length % 256) := by unfold cb; rw [dif_neg h, if_pos rfl]
theorem cb_out {l : List UInt8} {a j : Nat} (h : ¬ a + j < l.length) (h7 : j ≠ 7) : cb l a j = 0 := by unfold cb; rw [dif_neg h, if_neg h7]
theorem blk_full {l : List UInt8} {a : Nat} (h : a + 8 ≤ l.length) : blk l a 8 = num ((l.drop a).take 8) := by
  unfold blk
  congr 1
  apply List.ext_getElem
  · simp; omega
  · intro i h1 h2
    simp only [List.length_map, List.length_range] at h1
    rw [List.getElem_map, List.getElem_range, cb_in (by omega), List.getElem_take, List.getElem_drop]
theorem lnum_zeros : ∀ (l : List UInt8) (k : Nat), lnum (l ++ List.replicate k 0) = lnum l
  | [], 0 => rfl
  | [], k + 1 => by
    have := lnum_zeros [] k
    rw [List.nil_append] at this
    rw [List.nil_append, List.replicate_succ]; show (0 : UInt8).toNat + 256 * lnum (List.replicate k 0) = 0; rw [this]; rfl
  | b :: r, k => by rw [List.cons_append, lnum, lnum_zeros r k, lnum]
theorem num_zeros (l : List UInt8) (k : Nat) : num (l ++ List.replicate k 0) = num l := by unfold num; rw [lnum_zeros]
theorem shl_len (n : Nat) : BitVec.ofNat 64 (UInt8.ofNat (n % 256)).toNat <<< 56 = BitVec.ofNat 64 n <<< 56 := by
  apply BitVec.eq_of_toNat_eq
  rw [BitVec.toNat_shiftLeft, BitVec.toNat_shiftLeft, BitVec.toNat_ofNat, BitVec.toNat_ofNat, Nat.shiftLeft_eq, Nat.shiftLeft_eq, UInt8.toNat_ofNat']
  omega
theorem blk_last (l : List UInt8) : blk l (8 * (l.length / 8)) 8 = lastn (rest l) l.length := by
  unfold lastn
  rw [blk_succ _ _ 7 (by omega), cb_last (by omega), shl_len]
  congr 1
  rw [← num_zeros (rest l) (7 - (rest l).length)]
  unfold blk
  congr 1
  apply List.ext_getElem
  · rw [List.length_map, List.length_range, List.length_append, List.length_replicate, rest_len]; omega
  · intro i h1 h2
    simp only [List.length_map, List.length_range] at h1
    rw [List.getElem_map, List.getElem_range]
    by_cases h : i < (rest l).length
    · rw [List.getElem_append_left h]
      rw [rest_len] at h
      rw [cb_in (by omega)]
      exact (List.getElem_drop (xs := l) (i := 8 * (l.length / 8)) (j := i)).symm
    · rw [List.getElem_append_right (by omega), List.getElem_replicate]
      rw [rest_len] at h
      exact cb_out (by omega) (by omega)
/-- .. from the highest byte on. -/
theorem num_cons {l : List UInt8} (b : UInt8) (h : l.length < 8) : (256 * (num l).toNat + b.toNat = (num (b :: l)).toNat) ∧ 256 * (num l).toNat + b.toNat < 18446744073709551616 := by
  have h1 := num_toNat (l := l) (by omega)
  have h2 := num_toNat (l := b :: l) (by simp; omega)
  have h3 := (num (b :: l)).isLt
  rw [h2, lnum] at *
  rw [h1]
  constructor <;> omega
theorem back_I {l : List UInt8} (b : UInt8) (h : l.length < 8) : IntKind.u64.wrap (IntKind.u64.wrap (256 * I (num l)) + IntKind.u64.wrap (b.toNat : Int)) = I (num (b :: l)) := by
  have ⟨h1, h2⟩ := num_cons b h
  have hb := b.toNat_lt
  rw [I_eq, I_eq, ← h1, IntKind.wrap_u64, IntKind.wrap_u64, IntKind.wrap_u64]
  omega
end Go.Proofs.Ytiombblclgkigaa
