/- An argument that is texts, opened. -/
import Derived.Test.YtiombblclgkigaaSO
namespace Go.Proofs.Ytiombblclgkigaa
open Go.RowKit Go.ChangeShapes Go.WideShapes Go.ChangeAt Go.Joins
set_option linter.unusedSimpArgs false
set_option linter.unusedVariables false
theorem readable_strs : Try.prog.readableRec 28 = true := by kernel_rfl
theorem typed_strs : 28 < Try.prog.types.size := of_decide_eq_true (by kernel_rfl)
/-- The slice at A of length n reads as the texts ss. -/
structure Txs (w : World) (A : Option Addr) (n c : Nat) (ss : List ByteArray) : Prop where
  len : ss.length = n
  cap : n ≤ c
  top : c ≤ 9223372036854775807
  at_ : ∀ j (h : j < ss.length), ∃ ad, A = some ad ∧ w.cell? (ad.add j) = some (.string ss[j])
  sz : ∀ s ∈ ss, s.size ≤ 9223372036854775807
theorem Txs.next {w w' : World} {A : Option Addr} {n c : Nat} {ss : List ByteArray} (h : Txs w A n c ss) (hb : Below w.heap.size w w') : Txs w' A n c ss :=
  ⟨h.len, h.cap, h.top, fun j hj => by
    obtain ⟨ad, e, hc⟩ := h.at_ j hj
    exact ⟨ad, e, keep_cell hb hc⟩, h.sz⟩
set_option maxRecDepth 100000 in
theorem open_texts {H : Type} {enc : TypeId × Value → H} {W : World} {base : Nat} {v : Value} {d : DataW H} {p : List MemPlace} (hv : Value.okWide Try.prog W .any base 28 v)
    (h : DataW.Trod enc Try.prog W 0 (fun _ => true) true 28 v d p) : ∃ A n c ss, v = .slice A n c ∧ Txs W A n c ss := by
  obtain ⟨A, n, c, rfl⟩ := okWide_slice Try.underlying28 hv
  obtain ⟨fuel, hf⟩ := h
  rcases open_strings Try.underlying28 Try.underlying9 cells_str hf with ⟨hcs, hx⟩ | ⟨a, len, cap, ss, hcs, _, hle, hmax, hall, hx, hcell, hwf⟩
  · simp [Value.cells] at hcs
    obtain ⟨rfl, rfl, rfl⟩ := hcs
    exact ⟨none, 0, 0, [], rfl, rfl, Nat.le_refl _, Nat.zero_le _, fun j hj => absurd hj (by simp), fun s hs => absurd hs (by simp)⟩
  · simp [Value.cells] at hcs
    obtain ⟨rfl, rfl, rfl⟩ := hcs
    simp only [if_true] at hall
    unfold maxLen at hmax hwf
    refine ⟨_, _, _, ss.take n, rfl, by simp; omega, hle, hmax, fun j hj => ⟨_, rfl, ?_⟩, fun s hs => hwf s (List.mem_of_mem_take hs)⟩
    have hj' : j < n ∧ j < ss.length := by simp at hj; omega
    rw [hcell j hj'.2]
    have e : ss.getD j ByteArray.empty = ss[j] := by simp [List.getD, List.getElem?_eq_getElem hj'.2]
    rw [e, List.getElem_take]
end Go.Proofs.Ytiombblclgkigaa
