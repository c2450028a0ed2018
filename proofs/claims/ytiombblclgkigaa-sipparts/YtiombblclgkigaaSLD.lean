/- Hashes that go on: what follows of the parts. -/
import Derived.Test.YtiombblclgkigaaSI
import Derived.Test.YtiombblclgkigaaSLC
namespace Go.Proofs.Ytiombblclgkigaa

theorem Hs.ok_of {h : Hs} (h0 : 0 ≤ h.n) (h1 : (h.t.size : Int) = h.n % 8) : h.ok = true := by unfold Hs.ok; simp [h0, h1]
theorem Hs.not_ok {h : Hs} (k : ¬ (0 ≤ h.n ∧ (h.t.size : Int) = h.n % 8)) : h.ok = false := by
  unfold Hs.ok; simp only [Bool.and_eq_false_iff, decide_eq_false_iff_not]
  by_cases h0 : 0 ≤ h.n
  · exact Or.inr fun h1 => k ⟨h0, h1⟩
  · exact Or.inl h0
theorem Hs.wr_t (h : Hs) (s : ByteArray) : (h.wr s).t.size = (h.t.size + s.size) % 8 := by
  show (bs (rest (L h.t ++ L s))).size = _
  rw [bs_size, rest_len, List.length_append, L_len, L_len]
theorem Hs.wr_ok {h : Hs} (k : h.ok = true) (s : ByteArray) : (h.wr s).ok = true := by
  have k1 := Hs.ok_n k; have k2 := Hs.ok_t k
  have e : (h.wr s).n = h.n + s.size := rfl
  refine Hs.ok_of (by rw [e]; omega) ?_
  rw [Hs.wr_t, e]
  omega
theorem Hs.wr_wr (h : Hs) (a b : ByteArray) : (h.wr a).wr b = h.wr (a ++ b) := by
  unfold Hs.wr
  simp only [L_app, L_bs, eights_app, rest_rest, ByteArray.size_append, List.append_assoc, Int.natCast_add]
  rw [Int.add_assoc]
theorem Hs.wr_none {h : Hs} (k : h.ok = true) : h.wr ⟨#[]⟩ = h := by
  have k2 := Hs.ok_t k
  have hl : (L h.t).length < 8 := by rw [L_len]; omega
  obtain ⟨v, t, n⟩ := h
  unfold Hs.wr
  simp only at hl
  simp only [show L ⟨#[]⟩ = [] from rfl, List.append_nil, eights_few v hl, rest_few hl, bs_L, show (ByteArray.mk #[]).size = 0 from rfl]
  simp
/-- What is behind a text, from a seed on. -/
def Hs.of (p q : BitVec 64) (l : List UInt8) : Hs := ⟨eights (start p q) l, bs (rest l), l.length⟩
theorem Hs.of_nil (p q : BitVec 64) : Hs.of p q [] = ⟨start p q, ⟨#[]⟩, 0⟩ := rfl
theorem Hs.of_ok (p q : BitVec 64) (l : List UInt8) : (Hs.of p q l).ok = true := by
  refine Hs.ok_of (by show (0 : Int) ≤ (l.length : Int); omega) ?_
  show ((bs (rest l)).size : Int) = (l.length : Int) % 8
  rw [bs_size, rest_len]; omega
theorem Hs.of_wr (p q : BitVec 64) (l : List UInt8) (s : ByteArray) : (Hs.of p q l).wr s = Hs.of p q (l ++ L s) := by
  unfold Hs.of Hs.wr
  simp only [L_bs, eights_app, rest_rest, List.length_append, Int.natCast_add, L_len]
theorem Hs.of_fin (p q : BitVec 64) (l : List UInt8) : (Hs.of p q l).fin = hash p q l := rfl
end Go.Proofs.Ytiombblclgkigaa
