/- Bytes that lie in memory, and their text. -/
import Derived.Test.YtkghlijmlifmjaaCB
import Derived.Laws.IdiomStrings
namespace Go.Proofs.Ytkghlijmlifmjaa
open Go.RowKit
/-- The bytes l lie in block g. -/
def Byt (W : World) (g : Nat) (l : List UInt8) : Prop := ∀ (j : Nat) (h : j < l.length), W.cell? ⟨g, j, none⟩ = some (.int .u8 (l[j].toNat : Int))
theorem Byt.next {W W' : World} {g : Nat} {l : List UInt8} (hb : Below W.heap.size W W') (h : Byt W g l) : Byt W' g l := fun j hj => keep_cell hb (h j hj)
theorem Byt.drew {W : World} {g : Nat} {l : List UInt8} (h : Byt W g l) : Byt W.drew g l := h
theorem conv_of {W : World} {g : Nat} {l : List UInt8} {n c : Nat} (hn : l.length = n) (h : Byt W g l) : (convert 32 9 (.slice (some ⟨g, 0, none⟩) n c)).run Try.prog W = .ok (.string (bs l)) W := by
  subst hn
  exact run_convert_bytes_back W 32 9 5 ⟨g, 0, none⟩ c l Try.underlying32 Try.underlying5 Try.underlying9 (fun j hj => by
    have : (⟨g, 0, none⟩ : Addr).add j = ⟨g, j, none⟩ := by unfold Addr.add; split <;> simp_all
    rw [this]; exact h j hj)
/-- .. of the call's own, that may be written. -/
structure Bts (w : World) (g : Nat) (l : List UInt8) (W : World) : Prop where
  cell : Byt W g l
  melt : ∀ j, j < l.length → W.frozen? ⟨g, j, none⟩ = false
  hg : w.heap.size ≤ g
  bl : Below w.heap.size w W
theorem Bts.drew {w W : World} {g : Nat} {l : List UInt8} (h : Bts w g l W) : Bts w g l W.drew := ⟨h.cell, h.melt, h.hg, h.bl.drew⟩
theorem Bts.set {w W : World} {g : Nat} {l : List UInt8} (h : Bts w g l W) (i : Nat) (b : UInt8) : Bts w g (l.set i b) (W.setCell ⟨g, i, none⟩ (.int .u8 (b.toNat : Int))) := by
  refine ⟨fun j hj => ?_, fun j hj => ?_, h.hg, below_set h.bl h.hg _⟩
  · have hl : j < l.length := by rw [List.length_set] at hj; exact hj
    rw [List.getElem_set]
    by_cases e : i = j
    · subst e
      rw [if_pos rfl, World.cell?_setCell_same _ _ _ (h.cell i hl)]
    · rw [if_neg e, World.cell?_setCell_other _ _ _ _ (fun k => e (by cases k; rfl)), h.cell j hl]
  · rw [World.frozen?_setCell]
    exact h.melt j (by rw [List.length_set] at hj; exact hj)
/-- The bytes of a text, made anew. -/
theorem bytes_new (W : World) (s : ByteArray) : ∃ (c : Nat) (W' : World), (convert 9 32 (.string s)).run Try.prog W = .ok (.slice (some ⟨W.heap.size, 0, none⟩) s.size c) W' ∧ Bts W W.heap.size (L s) W' := by
  refine ⟨_, _, run_bytes_of_string W 9 32 5 s Try.underlying9 Try.underlying32 Try.underlying5, ⟨fun j hj => ?_, fun j hj => ?_, Nat.le_refl _, below_al (Below.refl _ _).drew _⟩⟩
  · have := World.cell?_alloc_mark W.drew (bytesRow s (grownCap W s.size 0 5)) 5 ((bytesRow s (grownCap W s.size 0 5)).size, (bytesRow s (grownCap W s.size 0 5)).size + 1) j
    have hj' : j < s.data.size := by simpa using hj
    rw [bytesRow_at s _ j hj'] at this
    exact this
  · have := World.frozen?_alloc_mark W.drew (bytesRow s (grownCap W s.size 0 5)) 5 (bytesRow s (grownCap W s.size 0 5)).size ((bytesRow s (grownCap W s.size 0 5)).size + 1) j
    have hj' : j < s.data.size := by simpa using hj
    have hs : s.data.size ≤ (bytesRow s (grownCap W s.size 0 5)).size := by unfold bytesRow; simp
    have e : (decide ((bytesRow s (grownCap W s.size 0 5)).size ≤ j) && decide (j < (bytesRow s (grownCap W s.size 0 5)).size + 1)) = false := by
      rw [decide_eq_false (by omega), Bool.false_and]
    rw [e] at this
    exact this
/-- No bytes yet: so many noughts, made anew. -/
theorem bytes_make (W : World) (n : Nat) (hn : n ≤ 100000) (k k' : IntKind) : ∃ W' : World, (Instr.makeSlice 32 (.int k (n : Int)) (.int k' (n : Int))).run Try.prog W = .ok (.slice (some ⟨W.heap.size, 0, none⟩) n n) W' ∧ Bts W W.heap.size (List.replicate n 0) W' := by
  have hi : (Try.prog.info? 5).map (fun i => (i.zero, i.size, i.bytes)) = some (some (.int .u8 0), 1, 1) := by kernel_rfl
  cases hq : Try.prog.info? 5 with
  | none => simp [hq] at hi
  | some i =>
    obtain ⟨h1, h2, h3⟩ : i.zero = some (.int .u8 0) ∧ i.size = 1 ∧ i.bytes = 1 := by simpa [hq] using hi
    have := run_make W 32 5 i _ Try.underlying32 hq h1 k k' (n : Int) (n : Int) (by omega) (by omega) (by rw [h3]; omega) (by omega)
    rw [Int.toNat_natCast, h2, Nat.mul_one] at this
    have hz : ∀ j, j < n → (madeCells (Value.int .u8 0).cells n)[j]? = some (.int .u8 0) := fun j hj => by
      simp [madeCells, Value.cells, hj, Nat.mod_one]
    refine ⟨_, this, ⟨fun j hj => ?_, fun j hj => ?_, Nat.le_refl _, (Below.refl _ _).alloc (Nat.le_refl _) _⟩⟩
    · have hj' : j < n := by simpa using hj
      rw [World.cell?_alloc_mark W, hz j hj', List.getElem_replicate]; rfl
    · rw [World.frozen?_alloc_mark]; simp
end Go.Proofs.Ytkghlijmlifmjaa
