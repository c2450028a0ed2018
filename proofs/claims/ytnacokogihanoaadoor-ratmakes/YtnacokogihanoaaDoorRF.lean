/- The walk of few; of the document's Same. -/
import Derived.Test.YtnacokogihanoaaDoorRE
namespace Go.Proofs.YtnacokogihanoaaDoor
open Go.RowKit
set_option linter.unusedVariables false
set_option linter.unusedSimpArgs false

/-- A pair of limbs, as it lies. -/
structure It where
  A : Option Addr
  n : Nat
  c : Nat
  xs : List Nat
  A' : Option Addr
  n' : Nat
  c' : Nat
  ys : List Nat
/-- It lies there. -/
structure It.At (t : It) (w : World) : Prop where
  l : Lim w t.A t.n t.c t.xs
  l' : Lim w t.A' t.n' t.c' t.ys
theorem It.At.next {t : It} {w w' : World} (h : t.At w) (hb : Below w.heap.size w w') : t.At w' := ⟨h.l.next hb, h.l'.next hb⟩
/-- A fraction of at most 6 limbs, each. -/
def It.Few (t : It) : Prop := t.n ≤ 6 ∧ t.n' ≤ 6 ∧ Fr t.xs t.ys
/-- Some of them, in a row. -/
structure Its (w : World) (g : Nat) (l : List It) : Prop where
  c0 : ∀ i (h : i < l.length), w.cell? ⟨g, i * 2, none⟩ = some (.slice l[i].A l[i].n l[i].c)
  c1 : ∀ i (h : i < l.length), w.cell? ⟨g, i * 2 + 1, none⟩ = some (.slice l[i].A' l[i].n' l[i].c')
  at_ : ∀ i (h : i < l.length), l[i].At w
theorem Its.next {w w' : World} {g : Nat} {l : List It} (h : Its w g l) (hb : Below w.heap.size w w') : Its w' g l :=
  ⟨fun i q => keep_cell hb (h.c0 i q), fun i q => keep_cell hb (h.c1 i q), fun i q => (h.at_ i q).next hb⟩
open Classical in
@[irreducible] noncomputable def fewB (l : List It) : Bool := decide (∀ t ∈ l, t.Few)
open Classical in
theorem fewB_yes {l : List It} (h : ∀ t ∈ l, t.Few) : fewB l = true := by unfold fewB; exact decide_eq_true h
open Classical in
theorem fewB_no {l : List It} (h : ¬ ∀ t ∈ l, t.Few) : fewB l = false := by unfold fewB; exact decide_eq_false h

set_option maxHeartbeats 4000000 in
set_option maxRecDepth 100000 in
theorem few_any {g k : Nat} {l : List It} {w : World} (h : Its w g l) (hk : l.length = k) (hk2 : k ≤ 1000) : Calls Tryd.prog 50 #[.slice (some ⟨g, 0, none⟩) k k] w fun e w' => e = .returned (.bool (fewB l)) ∧ Below w.heap.size w w' := by
  go_enter Tryd.func50, Tryd.ntmps50
  go_wp2_with fail
  go_loopg [7] k (fun gk s7 wr => ∃ i : Nat, s7 = .int .i64 (i : Int) ∧ i + gk = k ∧ Hid (∀ j (q : j < l.length), j < i → l[j].Few) ∧ Hid (Below w.heap.size w wr))
  case atStart => exact ⟨0, rfl, by omega, fun j q z => absurd z (by omega), Below.refl _ _⟩
  case round =>
    obtain ⟨i, rfl, hi, HJ, BL⟩ := hrel
    by_cases hz : gk = 0
    · subst hz
      have e : (i : Int) = (k : Int) := by omega
      rw [e]
      have R := Lib.hid (fewB_yes (l := l) fun t ht => by
        obtain ⟨j, q, rfl⟩ := List.mem_iff_getElem.1 ht
        exact HJ.out j q (by omega))
      go_wp2_with fail
      go_ret
      exact ⟨by rw [R.out]; rfl, BL.out⟩
    · have hik : i < l.length := by omega
      have N := h.next BL.out
      have d0 := N.c0 i hik
      have d1 := N.c1 i hik
      have hp := N.at_ i hik
      have i1 : (i : Int) < (k : Int) := by omega
      have i2 : (0 : Int) ≤ (i : Int) := by omega
      obtain ⟨t, ht⟩ : ∃ t, l[i] = t := ⟨_, rfl⟩
      rw [ht] at d0 d1 hp
      have no : ¬ t.Few → fewB l = false := fun q => fewB_no fun z => q (ht ▸ z _ (List.getElem_mem hik))
      have HT := Lib.hid ht
      have HO := Lib.hid h
      clear N ht h
      by_cases h6 : t.n ≤ 6
      · have i6 : ¬ (6 : Int) < (t.n : Int) := by omega
        by_cases h7 : t.n' ≤ 6
        · have i7 : ¬ (6 : Int) < (t.n' : Int) := by omega
          have B0 : Below wr.heap.size wr (wr.alloc (.cells #[.slice t.A t.n t.c, .slice t.A' t.n' t.c'] 50)) := (Below.refl _ _).alloc (Nat.le_refl _) _
          have K := ratRight_any (hp.l.next B0) (hp.l'.next B0)
          by_cases hf : Fr t.xs t.ys
          · rw [frB_yes hf] at K
            have K := Lib.hid K
            have B0 := Lib.hid (below_step BL.out B0)
            have HF : Hid t.Few := ⟨h6, h7, hf⟩
            clear hp no hf h6 h7
            go_wp2_with fail
            refine K.out.mono ?_
            rintro e w1 ⟨rfl, B1⟩
            have B1 := Lib.hid (below_step B0.out B1)
            clear K B0
            go_wp2_with fail
            go_roundg (gk - 1)
            case measure => omega
            case rel =>
              refine ⟨i + 1, rfl, by omega, fun j q z => ?_, B1⟩
              by_cases e : j = i
              · subst e; rw [HT.out]; exact HF.out
              · exact HJ.out j q (by omega)
          · rw [frB_no hf] at K
            have K := Lib.hid K
            have B0 := Lib.hid (below_step BL.out B0)
            have R := Lib.hid (no fun z => hf z.2.2)
            clear hp no hf h6 h7
            go_wp2_with fail
            refine K.out.mono ?_
            rintro e w1 ⟨rfl, B1⟩
            have B1 := Lib.hid (below_step B0.out B1)
            clear K B0
            go_wp2_with fail
            go_ret
            exact ⟨by rw [R.out]; rfl, B1.out⟩
        · have i7 : (6 : Int) < (t.n' : Int) := by omega
          have R := Lib.hid (no fun z => h7 z.2.1)
          have B0 : Below wr.heap.size wr (wr.alloc (.cells #[.slice t.A t.n t.c, .slice t.A' t.n' t.c'] 50)) := (Below.refl _ _).alloc (Nat.le_refl _) _
          have B0 := Lib.hid (below_step BL.out B0)
          clear hp no h6 h7
          go_wp2_with fail
          go_ret
          exact ⟨by rw [R.out]; rfl, B0.out⟩
      · have i6 : (6 : Int) < (t.n : Int) := by omega
        have R := Lib.hid (no fun z => h6 z.1)
        have B0 : Below wr.heap.size wr (wr.alloc (.cells #[.slice t.A t.n t.c, .slice t.A' t.n' t.c'] 50)) := (Below.refl _ _).alloc (Nat.le_refl _) _
        have B0 := Lib.hid (below_step BL.out B0)
        clear hp no h6
        go_wp2_with fail
        go_ret
        exact ⟨by rw [R.out]; rfl, B0.out⟩

set_option maxHeartbeats 1000000 in
set_option maxRecDepth 100000 in
theorem same3_any {A A' D D' : Option Addr} {n c n' c' m k m' k' : Nat} {xs ys us vs : List Nat} {w : World} (ha : Lim w A n c xs) (ha' : Lim w A' n' c' ys) (hb : Lim w D m k us) (hb' : Lim w D' m' k' vs) : Calls Tryd.prog 51 #[.agg #[.slice A n c, .slice A' n' c'], .agg #[.slice D m k, .slice D' m' k']] w fun e w' => e = .returned (.bool (sameB xs us && sameB ys vs)) ∧ Below w.heap.size w w' := by
  have S := (((((Fs.start w).put ha).put ha').put hb).put hb').box (.slice A n c) (.slice A' n' c') |>.box (.slice D m k) (.slice D' m' k')
  simp only [World.size_alloc] at S
  clear ha ha' hb hb'
  go_enter Tryd.func51, Tryd.ntmps51
  go_wp2_with fail
  generalize (w.alloc (.cells #[.slice A n c, .slice A' n' c'] 50)).alloc (.cells #[.slice D m k, .slice D' m' k'] 50) = w0 at *
  refine (same_bel S.lie.2.2.2.1 S.lie.2.1).mono ?_
  rintro e w1 ⟨rfl, B1⟩
  have S := S.next B1
  clear B1
  obtain ⟨⟨b0, b1, -⟩, ⟨a0, a1, -⟩, -⟩ := S.cel
  by_cases q : sameB xs us = true
  · rw [q]
    go_wp2_with fail
    refine (same_bel S.lie.2.2.1 S.lie.1).mono ?_
    rintro e w2 ⟨rfl, B1⟩
    have S := S.next B1
    clear B1 a0 a1 b0 b1
    have Q := Lib.hid q
    clear q
    go_wp2_with fail
    go_ret
    exact ⟨by rw [Q.out, Bool.true_and]; rfl, S.bl⟩
  · have q : sameB xs us = false := by simpa using q
    rw [q]
    have Q := Lib.hid q
    clear q
    go_wp2_with fail
    go_ret
    exact ⟨by rw [Q.out, Bool.false_and]; rfl, S.bl⟩
theorem same3_yes {A A' D D' : Option Addr} {n c n' c' m k m' k' : Nat} {xs ys : List Nat} {w : World} (ha : Lim w A n c xs) (ha' : Lim w A' n' c' ys) (hb : Lim w D m k xs) (hb' : Lim w D' m' k' ys) : Calls Tryd.prog 51 #[.agg #[.slice A n c, .slice A' n' c'], .agg #[.slice D m k, .slice D' m' k']] w fun e w' => e = .returned (.bool true) ∧ Below w.heap.size w w' := by
  have K := same3_any ha ha' hb hb'
  rw [sameB_yes, sameB_yes] at K
  exact K

/-- Rows of one, two and three pairs that have just been laid. -/
theorem its_new (w : World) (l : List It) (o : Array Value) (e : o = ((l.map fun t => [Value.slice t.A t.n t.c, .slice t.A' t.n' t.c']).flatten).toArray) (h : ∀ t ∈ l, t.At w) : Its (w.alloc (.cells o 50)) w.heap.size l := by
  have hb : Below w.heap.size w (w.alloc (.cells o 50)) := (Below.refl _ _).alloc (Nat.le_refl _) _
  have key : ∀ (l : List It) (i : Nat) (q : i < l.length), ((l.map fun t => [Value.slice t.A t.n t.c, .slice t.A' t.n' t.c']).flatten)[i * 2]? = some (.slice l[i].A l[i].n l[i].c) ∧ ((l.map fun t => [Value.slice t.A t.n t.c, .slice t.A' t.n' t.c']).flatten)[i * 2 + 1]? = some (.slice l[i].A' l[i].n' l[i].c') := by
    intro l
    induction l with
    | nil => intro i q; simp at q
    | cons t r ih =>
      intro i q
      cases i with
      | zero => simp
      | succ i =>
        have := ih i (by simpa using q)
        rw [show (i + 1) * 2 = i * 2 + 1 + 1 by omega]
        simpa using this
  subst e
  exact ⟨fun i q => by simpa [go_sem] using (key l i q).1, fun i q => by simpa [go_sem] using (key l i q).2, fun i q => (h _ (List.getElem_mem q)).next hb⟩
end Go.Proofs.YtnacokogihanoaaDoor
