/- The walk of wide.Text. -/
import Derived.Test.YtnacokogihanoaaDoorWWalkD
import Derived.Test.YtnacokogihanoaaDoorWMathG
import Derived.Laws.IdiomStrings
namespace Go.Proofs.YtnacokogihanoaaDoor.Wd
open Go.RowKit
set_option linter.unusedSimpArgs false
set_option linter.unusedVariables false

/-- Two blocks of the call's own that may be written: the number's, and the digits'. -/
structure Tx (w : World) (m : Nat) (d : Nat → Int) (wx : World) : Prop where
  m0 : wx.cell? ⟨w.heap.size, 0, none⟩ = some (.int .u64 (hi m))
  m1 : wx.cell? ⟨w.heap.size, 1, none⟩ = some (.int .u64 (lo m))
  f0 : wx.frozen? ⟨w.heap.size, 0, none⟩ = false
  f1 : wx.frozen? ⟨w.heap.size, 1, none⟩ = false
  dc : ∀ j, j < 39 → wx.cell? ⟨w.heap.size + 1, j, none⟩ = some (.int .u8 (d j))
  df : ∀ j, j < 39 → wx.frozen? ⟨w.heap.size + 1, j, none⟩ = false
  sz : w.heap.size + 1 < wx.heap.size
  bl : Below w.heap.size w wx
theorem Tx.next {w : World} {m : Nat} {d : Nat → Int} {W w1 : World} (t : Tx w m d W) (hb : Below W.heap.size W w1) : Tx w m d w1 :=
  ⟨keep_cell hb t.m0, keep_cell hb t.m1, keep_melt hb t.m0 t.f0, keep_melt hb t.m1 t.f1, fun j hj => keep_cell hb (t.dc j hj), fun j hj => keep_melt hb (t.dc j hj) (t.df j hj), Nat.lt_of_lt_of_le t.sz hb.size, t.bl.trans (hb.mono (by have := t.sz; omega))⟩
theorem Tx.alloc {w : World} {m : Nat} {d : Nat → Int} {W : World} (t : Tx w m d W) (o : Obj) : Tx w m d (W.alloc o) := t.next ((Below.refl _ _).alloc (Nat.le_refl _) o)
theorem Tx.start (w : World) (n : Nat) (c : Array Value) (hc : ∀ j, j < 39 → c[j]? = some (.int .u8 0)) : Tx w n (fun _ => 0) ((w.alloc (.cells #[.int .u64 (hi n), .int .u64 (lo n)] 26)).alloc (.cells c 91)) := by
  refine ⟨?_, ?_, ?_, ?_, ?_, ?_, ?_, ((Below.refl _ _).alloc (Nat.le_refl _) _).alloc (by simp) _⟩
  · simp [go_sem, World.cell?_alloc_past]
  · simp [go_sem, World.cell?_alloc_past]
  · simp [go_sem, World.cell?_alloc_past]
  · simp [go_sem, World.cell?_alloc_past]
  · intro j hj
    have := hc j hj
    have e := World.cell?_alloc_mark (w.alloc (.cells #[.int .u64 (hi n), .int .u64 (lo n)] 26)) c 91 (0, 0) j
    rw [World.size_alloc] at e
    exact e.trans this
  · intro j hj
    rw [frozen?_alloc_cells]
    have := frozen?_alloc_cells w #[.int .u64 (hi n), .int .u64 (lo n)] 26 ⟨w.heap.size + 1, j, none⟩
    rw [this]
    have e : w.heap[w.heap.size + 1]? = none := by simp
    simp [World.frozen?, e]
  · simp [go_sem]
theorem cell_set_same {w : World} {p : Addr} {v u : Value} (h : w.cell? p = some v) : (w.setCell p u).cell? p = some u := by simp [go_sem, h]
theorem Tx.digit {w : World} {m : Nat} {d : Nat → Int} {W : World} (t : Tx w m d W) (k : Nat) (hk : k < 39) (x : Int) : Tx w m (fun j => if j = k then x else d j) (W.setCell ⟨w.heap.size + 1, k, none⟩ (.int .u8 x)) := by
  refine ⟨keep_set t.m0 _ (by simp), keep_set t.m1 _ (by simp), (World.frozen?_setCell _ _ _ _).trans t.f0, (World.frozen?_setCell _ _ _ _).trans t.f1, ?_, fun j hj => (World.frozen?_setCell _ _ _ _).trans (t.df j hj), by rw [World.size_setCell]; exact t.sz, t.bl.setCell (by simp) _⟩
  intro j hj
  by_cases h : j = k
  · subst h
    rw [if_pos rfl]
    exact cell_set_same (t.dc j hj)
  · rw [if_neg h]
    have := t.dc j hj
    rw [← this]
    simp [go_sem, this, h, Ne.symm h]
theorem Tx.put {w : World} {m : Nat} {d : Nat → Int} {W : World} (t : Tx w m d W) (q : Nat) : Tx w q d ((W.setCell ⟨w.heap.size, 0, none⟩ (.int .u64 (hi q))).setCell ⟨w.heap.size, 1, none⟩ (.int .u64 (lo q))) := by
  have h0 := t.m0; have h1 := t.m1
  refine ⟨by simp [go_sem, h0, h1], by simp [go_sem, h0, h1], ?_, ?_, fun j hj => keep_set (keep_set (t.dc j hj) _ (by simp)) _ (by simp), ?_, ?_, (t.bl.setCell (by simp) _).setCell (by simp) _⟩
  · rw [World.frozen?_setCell, World.frozen?_setCell]; exact t.f0
  · rw [World.frozen?_setCell, World.frozen?_setCell]; exact t.f1
  · intro j hj; rw [World.frozen?_setCell, World.frozen?_setCell]; exact t.df j hj
  · rw [World.size_setCell, World.size_setCell]; exact t.sz

/-- At a round's head. -/
def TextRel (n : Nat) (w : World) (g : Nat) (i : Value) (wr : World) : Prop := ∃ (m : Nat) (t : List UInt8) (d : Nat → Int), i = .int .i64 (g : Int) ∧ Fits m ∧ m < 10 ^ g ∧ t.length + g = 39 ∧
  (g = 39 ∧ m = n ∨ g < 39 ∧ text n = textF g m ++ t) ∧ (∀ j (h : j < t.length), d (g + j) = (t[j].toNat : Int)) ∧ Tx w m d wr

theorem textRel_step {n m j : Nat} {w : World} {t : List UInt8} {d : Nat → Int} {W : World} (hm : Fits m) (h10 : m < 10 ^ (j + 1)) (hl : t.length + (j + 1) = 39)
    (hc : (j + 1 = 39 ∧ m = n ∨ j + 1 < 39 ∧ text n = textF (j + 1) m ++ t)) (hz : j + 1 = 39 ∨ m ≠ 0) (hd : ∀ i (h : i < t.length), d (j + 1 + i) = (t[i].toNat : Int))
    (T : Tx w (m / 10) (fun i => if i = j then 48 + lo (m % 10) else d i) W) : TextRel n w j (.int .i64 (j : Int)) W := by
  have e1 : ((dig (m % 10)).toNat : Int) = 48 + lo (m % 10) := by
    have := Nat.mod_lt m (show 0 < 10 by decide)
    rw [dig_toNat this, lo_small (by omega)]
  refine ⟨m / 10, dig (m % 10) :: t, _, rfl, ?_, div_lt_ten h10, by simp; omega, Or.inr ⟨by omega, ?_⟩, ?_, T⟩
  · unfold Fits at *; omega
  · rcases hc with ⟨h39, rfl⟩ | ⟨h39, ht⟩
    · have : t = [] := List.length_eq_zero_iff.1 (by omega)
      subst this
      have : j = 38 := by omega
      subst this
      exact text_eq m
    · have h0 : m ≠ 0 := hz.elim (fun h => absurd h (by omega)) id
      rw [ht, textF_succ h0, List.append_assoc]
      rfl
  · intro i hi
    cases i with
    | zero => simp; exact e1.symm
    | succ i =>
      have h2 : i < t.length := by simpa using hi
      have := hd i h2
      simp only [List.getElem_cons_succ]
      rw [← this, if_neg (by omega)]
      congr 1
      omega

set_option maxHeartbeats 2000000 in
set_option maxRecDepth 100000 in
/-- wide.Text. -/
theorem text_any (n : Nat) (hn : Fits n) (w : World) : Calls Tryd.prog 30 #[U n] w fun e w' => e = .returned (.string ⟨(text n).toArray⟩) ∧ Below w.heap.size w w' := by
  obtain ⟨L, hL⟩ : ∃ L, text n = L := ⟨_, rfl⟩
  rw [hL]
  have HL := Lib.hid hL
  clear hL
  go_enter Tryd.func30, Tryd.ntmps30
  go_wp2_with fail
  have T0 := Tx.start w n (Array.replicate 39 (.int .u8 0)) (fun j hj => by simp [hj])
  have n39 : n < 10 ^ 39 := by unfold Fits at hn; omega
  go_loopg [4, 5, 6] 39 (fun g i _ _ wr => TextRel n w g i wr)
  case atStart => exact ⟨n, [], _, rfl, hn, n39, rfl, Or.inl ⟨rfl, rfl⟩, fun j h => by simp at h, T0⟩
  case round =>
    clear T0 n39 hn
    obtain ⟨m, t, d, rfl, hm, h10, hl, hc, hd, T⟩ := hrel
    have HM := Lib.hid hm; have H10 := Lib.hid h10; have HLt := Lib.hid hl; have HC := Lib.hid hc; have HD := Lib.hid hd
    clear hm h10 hc hd
    have m0 := T.m0; have m1 := T.m1
    by_cases go : gk = 39 ∨ m ≠ 0
    · obtain ⟨j, hj⟩ : ∃ j, gk = j + 1 := by
        rcases go with h | h
        · exact ⟨38, h⟩
        · have h1 := H10.out
          cases gk with
          | zero => simp at h1; exact absurd h1 h
          | succ j => exact ⟨j, rfl⟩
      subst hj
      have j1 : j < 39 := by omega
      have GO := Lib.hid go
      go_upto_region 3 with fail
      go_cut [13] (fun s13 wx => s13 = .bool true ∧ wx = wr)
      case first =>
        by_cases k : j + 1 = 39
        · have kb : (((j : Int) + 1) == 39) = true := by simp; omega
          clear hl j1 k go
          go_wp2_with fail
          go_meet
          exact ⟨rfl, rfl⟩
        · have kb : (((j : Int) + 1) == 39) = false := by simp; omega
          have h0 : m ≠ 0 := go.elim (fun h => absurd h k) id
          by_cases hh : hi m = 0
          · have hb : (hi m == 0) = true := by simpa using hh
            have lb : (lo m == 0) = false := by
              simp; intro e; exact h0 (eq_of_words (by rw [hh, hi_zero]) (by rw [e, lo_zero]))
            clear hl j1 k go h0 hh
            go_wp2_with fail
            go_meet
            exact ⟨rfl, rfl⟩
          · have hb : (hi m == 0) = false := by simpa using hh
            clear hl j1 k go h0 hh
            go_wp2_with fail
            go_meet
            exact ⟨rfl, rfl⟩
      case rest =>
        obtain ⟨rfl, rfl⟩ := hcut
        have K0 := Lib.hid (divShort_nat m 10 HM.out (by decide) (by decide))
        have d9 : lo (m % 10) ≤ 9 := by have := Nat.mod_lt m (show 0 < 10 by decide); rw [lo_small (by omega)]; omega
        have d0 := lo_nonneg (m % 10)
        go_upto_region 5 with (go_at_call 72; refine (K0.out _).mono ?_; rintro e w1 ⟨rfl, hb1⟩)
        have T1 := (T.next hb1).alloc (.cells #[.int .u64 (hi (m / 10)), .int .u64 (lo (m / 10))] 26)
        have q0 : (w1.alloc (.cells #[.int .u64 (hi (m / 10)), .int .u64 (lo (m / 10))] 26)).cell? ⟨w1.heap.size, 0, none⟩ = some (.int .u64 (hi (m / 10))) := by simp [go_sem]
        have q1 : (w1.alloc (.cells #[.int .u64 (hi (m / 10)), .int .u64 (lo (m / 10))] 26)).cell? ⟨w1.heap.size, 1, none⟩ = some (.int .u64 (lo (m / 10))) := by simp [go_sem]
        have t7 : w.heap.size + 1 < w1.heap.size := (T.next hb1).sz
        generalize w1.alloc (.cells #[.int .u64 (hi (m / 10)), .int .u64 (lo (m / 10))] 26) = W2 at *
        have t1 := T1.dc j j1; have t2 := T1.df j j1; have t3 := T1.m0; have t4 := T1.m1; have t5 := T1.f0; have t6 := T1.f1
        clear go
        go_wp2_with fail
        go_roundg j
        case measure => omega
        case rel =>
          go_light
          exact textRel_step HM.out H10.out HLt.out HC.out GO.out HD.out ((T1.digit j j1 (48 + lo (m % 10))).put (m / 10))
    · have g1 : gk ≠ 39 := fun h => go (Or.inl h)
      have m2 : m = 0 := Decidable.byContradiction fun h => go (Or.inr h)
      subst m2
      have g2 : gk < 39 := by omega
      have EL : Hid (t = L) := by
        unfold Hid
        rw [← HL.out]
        rcases HC.out with h | h
        · exact absurd h.1 g1
        · rw [h.2, textF_zero]; rfl
      have kb : ((gk : Int) == 39) = false := by simp; omega
      have hz := hi_zero; have lz := lo_zero
      have g3 : (gk : Int) ≤ 39 := by omega
      have hconv : (convert 75 9 (.slice (some ⟨w.heap.size + 1, gk, none⟩) (39 - gk) (39 - gk))).run Tryd.prog wr = .ok (.string ⟨L.toArray⟩) wr := by
        have e : 39 - gk = t.length := by omega
        rw [← EL.out, e]
        refine run_convert_bytes_back wr 75 9 5 ⟨w.heap.size + 1, gk, none⟩ _ t Tryd.underlying75 Tryd.underlying5 Tryd.underlying9 ?_
        intro j hj
        have ha : (⟨w.heap.size + 1, gk, none⟩ : Addr).add j = ⟨w.heap.size + 1, gk + j, none⟩ := by unfold Addr.add; split <;> simp_all
        rw [ha, T.dc (gk + j) (by omega), HD.out j hj]
      clear go g1
      go_wp2_with fail
      go_ret
      exact ⟨rfl, T.bl⟩
end Go.Proofs.YtnacokogihanoaaDoor.Wd
