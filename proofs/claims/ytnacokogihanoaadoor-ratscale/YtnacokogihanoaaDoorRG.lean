/- Pairs of few limbs, in plain numbers. -/
import Derived.Test.YtnacokogihanoaaDoorRBase
import Derived.Test.YtnacokogihanoaaDoorRNum
namespace Go.Proofs.YtnacokogihanoaaDoor
open Go.RowKit
set_option linter.unusedVariables false
theorem Lies.set2 {W : World} {b : Nat} {B B' : Option Addr} {m k m' k' : Nat} (c0 : W.cell? ⟨b, 0, none⟩ = some (.slice B m k)) (c1 : W.cell? ⟨b, 1, none⟩ = some (.slice B' m' k')) (u' v' : Value) : ∀ {l : List (Option Addr × Nat × Nat × List Nat)}, Lies l W → Lies l ((W.setCell ⟨b, 0, none⟩ u').setCell ⟨b, 1, none⟩ v')
  | [], _ => trivial
  | (_, _, _, _) :: _, h => ⟨h.1.put2 c0 c1 _ _, Lies.set2 c0 c1 u' v' h.2⟩
theorem cels_keep {W : World} {b : Nat} (u' v' : Value) : ∀ {l : List (Nat × Value × Value)}, (∀ x ∈ l, x.1 ≠ b) → Cels l W → Cels l ((W.setCell ⟨b, 0, none⟩ u').setCell ⟨b, 1, none⟩ v')
  | [], _, _ => trivial
  | (c, _, _) :: _, hne, h => by
    have hc : c ≠ b := hne _ List.mem_cons_self
    exact ⟨⟨keep_set (keep_set h.1.1 _ hc) _ hc, keep_set (keep_set h.1.2.1 _ hc) _ hc, (World.frozen?_setCell _ _ _ _).trans ((World.frozen?_setCell _ _ _ _).trans h.1.2.2.1), (World.frozen?_setCell _ _ _ _).trans ((World.frozen?_setCell _ _ _ _).trans h.1.2.2.2.1), by simpa using h.1.2.2.2.2⟩, cels_keep u' v' (fun x hx => hne x (by simp [hx])) h.2⟩
theorem cels_app {W : World} : ∀ {p q : List (Nat × Value × Value)}, Cels (p ++ q) W ↔ Cels p W ∧ Cels q W
  | [], q => ⟨fun h => ⟨trivial, h⟩, fun h => h.2⟩
  | (_, _, _) :: p, q => by
    show _ ∧ Cels (p ++ q) W ↔ (_ ∧ Cels p W) ∧ Cels q W
    rw [cels_app]
    exact ⟨fun h => ⟨⟨h.1, h.2.1⟩, h.2.2⟩, fun h => ⟨h.1.1, h.1.2, h.2⟩⟩
/-- A block that is written anew. -/
theorem Fs.set {w W : World} {p q : List (Nat × Value × Value)} {l : List (Option Addr × Nat × Nat × List Nat)} {b : Nat} {B B' : Option Addr} {m k m' k' : Nat} (s : Fs w (p ++ (b, .slice B m k, .slice B' m' k') :: q) l W) (hb : w.heap.size ≤ b) (hne : ∀ x ∈ p ++ q, x.1 ≠ b) (u' v' : Value) :
    Fs w (p ++ (b, u', v') :: q) l ((W.setCell ⟨b, 0, none⟩ u').setCell ⟨b, 1, none⟩ v') := by
  obtain ⟨h1, h2⟩ := cels_app.1 s.cel
  obtain ⟨⟨c0, c1, m0, m1, sz⟩, h3⟩ := h2
  refine ⟨s.lie.set2 c0 c1 _ _, cels_app.2 ⟨cels_keep _ _ (fun x hx => hne x (by simp [hx])) h1, ⟨⟨?_, ?_, (World.frozen?_setCell _ _ _ _).trans ((World.frozen?_setCell _ _ _ _).trans m0), (World.frozen?_setCell _ _ _ _).trans ((World.frozen?_setCell _ _ _ _).trans m1), by simpa using sz⟩, cels_keep _ _ (fun x hx => hne x (by simp [hx])) h3⟩⟩, (s.bl.setCell hb _).setCell hb _⟩
  · rw [World.cell?_setCell_other _ _ _ _ (by simp)]
    exact World.cell?_setCell_same _ _ _ c0
  · exact World.cell?_setCell_same _ _ _ ((World.cell?_setCell_other _ _ _ _ (by simp)).trans c1)
theorem few_num {A A' : Option Addr} {n c n' c' p q : Nat} {w : World} (h : Lim w A n c (limbs p)) (h' : Lim w A' n' c' (limbs q)) (f : F6 p q) : It.Few ⟨A, n, c, limbs p, A', n', c', limbs q⟩ := by
  have a := h.len; have b := h'.len
  rw [limbs_length] at a b
  have := f.lp; have := f.lq
  exact ⟨show n ≤ 6 by omega, show n' ≤ 6 by omega, f.f.fr⟩
theorem num_few {A A' : Option Addr} {n c n' c' : Nat} {xs ys : List Nat} {w : World} (h : Lim w A n c xs) (h' : Lim w A' n' c' ys) (f : It.Few ⟨A, n, c, xs, A', n', c', ys⟩) : F6 (val xs) (val ys) ∧ xs = limbs (val xs) ∧ ys = limbs (val ys) := by
  obtain ⟨a, b, g⟩ := f
  have a : n ≤ 6 := a
  have b : n' ≤ 6 := b
  have g : Fr xs ys := g
  obtain ⟨k, e, e'⟩ := g.num h.lo h'.lo
  have a1 : ln (val xs) = xs.length := by rw [← limbs_length, ← e]
  have a2 : ln (val ys) = ys.length := by rw [← limbs_length, ← e']
  have := h.len; have := h'.len
  exact ⟨⟨k, by omega, by omega⟩, e, e'⟩
end Go.Proofs.YtnacokogihanoaaDoor
