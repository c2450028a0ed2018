/- Words of which the size is told; words that a call has put together; draws of more words. -/
import Derived.Test.YthhphbaimpcjfaaDNB
import Derived.Laws.AppendOwnNone
import Derived.SizedLaws
namespace Go.Proofs.Ythhphbaimpcjfaa
open Go.RowKit Go.ChangeShapes Go.WideShapes Go.ChangeAt Go.Joins
set_option linter.unusedSimpArgs false
set_option linter.unusedVariables false
theorem bytes_u64 : Try.prog.bytesOf 23 = 8 := by kernel_rfl
section
variable {H : Type} {enc : TypeId × Value → H} {W : World} {base : Nat} {v : Value} {d : DataW H} {p : List MemPlace}
set_option maxRecDepth 100000 in
theorem open_wordsz (hv : Value.okWide Try.prog W .any base 22 v)
    (h : DataW.Trod enc Try.prog W 0 (fun _ => true) true 22 v d p) (hs : ∀ el sp, d = .slice el sp → (el.length + sp.length) * 8 ≤ reachBytes) : ∃ A n c xs, v = .slice A n c ∧ Wl W A n c xs ∧ n * 8 ≤ reachBytes ∧ (A = none → n = 0 ∧ c = 0) := by
  obtain ⟨A, n, c, rfl⟩ := okWide_slice Try.underlying22 hv
  obtain ⟨fuel, hf⟩ := h
  rcases open_ints Try.underlying22 Try.underlying23 cells_u64 hf with ⟨hcs, hx⟩ | ⟨a, len, cap, zs, hcs, _, hle, hmax, hall, hx, hcell, hwf⟩
  · simp [Value.cells] at hcs
    obtain ⟨rfl, rfl, rfl⟩ := hcs
    exact ⟨none, 0, 0, [], rfl, Wl.none_ _ _ _ (Nat.zero_le _), Nat.zero_le _, fun _ => ⟨rfl, rfl⟩⟩
  · simp [Value.cells] at hcs
    obtain ⟨rfl, rfl, rfl⟩ := hcs
    simp only [if_true] at hall
    unfold maxLen at hmax
    have hsz : n * 8 ≤ reachBytes := by
      injection hx with hx1 hx2
      have := hs _ _ hx1
      simp [lits] at this
      omega
    refine ⟨_, _, _, (zs.take n).map Int.toNat, rfl, ⟨by simp; omega, hle, hmax, fun j hj => ⟨_, rfl, ?_⟩, ?_⟩, hsz, fun e => by cases e⟩
    · have hj' : j < n ∧ j < zs.length := by simp at hj; omega
      rw [hcell j hj'.2]
      have hb := bounds_u64 (hwf _ (List.getElem_mem hj'.2))
      have e : zs.getD j 0 = zs[j] := by simp [List.getD, List.getElem?_eq_getElem hj'.2]
      rw [e]
      simp only [List.getElem_map, List.getElem_take]
      exact congrArg (fun z => some (Value.int .u64 z)) (by omega)
    · intro x hx
      rw [List.mem_map] at hx
      obtain ⟨z, hz, rfl⟩ := hx
      have hb := bounds_u64 (hwf z (List.mem_of_mem_take hz))
      omega
end
/-- A row of words that the call owns is a slice of words. -/
theorem own_wl {w : World} {base n : Nat} {v : Value} {xs : List Nat} (h : w.ownsRow base 23 1 v n (xs.map wd)) (lo : Lw xs) : ∃ A c, v = .slice A n c ∧ Wl w A n c xs := by
  have hl : xs.length = n := by have := h.1; simpa using this
  rcases h.2 with ⟨rfl, rfl⟩ | ⟨g, cap, cur, rfl, _, hb, h1, h2, h3, h4⟩
  · have e := List.eq_nil_of_length_eq_zero hl
    subst e
    exact ⟨none, 0, rfl, Wl.none_ _ _ _ (by omega)⟩
  · refine ⟨_, cap, rfl, hl, h1, h2, fun j hj => ⟨_, rfl, ?_⟩, lo⟩
    rw [add_lit, Nat.zero_add]
    have e : cur[j]? = some (wd xs[j]) := by
      have : (cur.toList.take (n * 1))[j]? = some (wd xs[j]) := by rw [h4]; simp [hj]
      rw [List.getElem?_take, if_pos (by omega)] at this
      simpa using this
    simp [World.cell?, hb, e]
/-- The words of an argument, as what is appended. -/
theorem wl_news {w : World} {ad : Addr} {n c : Nat} {xs : List Nat} (h : Wl w (some ad) n c xs) : ∀ j u, (xs.map wd)[j]? = some u → w.cell? (ad.add j) = some u := by
  intro j u hu
  obtain ⟨hj, e⟩ := List.getElem?_eq_some_iff.1 hu
  have hj' : j < xs.length := by simpa using hj
  rw [h.cell j hj', ← e]
  simp
theorem wl_news2 {w : World} {ad : Addr} {n c : Nat} {xs : List Nat} (h : Wl w (some ad) n c xs) : ∀ (j a : Nat), xs[j]? = some a → w.cell? (ad.add j) = some (wd a) := by
  intro j a hu
  obtain ⟨hj, e⟩ := List.getElem?_eq_some_iff.1 hu
  rw [h.cell j hj, e]
theorem one_words (xs : List Nat) : ∀ u ∈ xs.map wd, u.oneCell' = true := by
  intro u hu
  obtain ⟨x, _, rfl⟩ := List.mem_map.1 hu
  rfl
/-- No words lie in the block of an empty literal. -/
theorem own_empty {w : World} (base : Nat) (hb : base ≤ w.heap.size) : (w.alloc (.cells #[] 23)).ownsRow base 23 1 (.slice (some ⟨w.heap.size, 0, none⟩) 0 0) 0 (([] : List Nat).map wd) :=
  ⟨rfl, Or.inr ⟨w.heap.size, 0, #[], rfl, hb, heap_alloc_new w _, Nat.le_refl _, Nat.zero_le _, rfl, rfl⟩⟩
theorem two_new {w z : World} (hb : Below w.heap.size w z) (cs ds : Array Value) (t t' : TypeId) : Two w z.heap.size (z.heap.size + 1) cs ds ((z.alloc (.cells cs t)).alloc (.cells ds t')) := by
  have h := Two.new z cs ds t t'
  have := hb.size
  exact ⟨h.bg, h.br, h.ne, hb.size, by omega, below_step hb h.bl⟩
theorem Box.no_word {w : World} {r : Nat} {A : Option Addr} {n c : Nat} {p : Int} (h : Box w r #[.slice A n c, .int .i64 p]) {A3 : Option Addr} {n3 c3 : Nat} {xs : List Nat} (l : Wl w A3 n3 c3 xs) : ∀ ad, A3 = some ad → 0 < n3 → ad.block ≠ r := by
  intro ad e hn
  obtain ⟨ad', e', hc⟩ := l.at_ 0 (by rw [l.len]; exact hn)
  rw [e] at e'
  injection e' with e'
  subst e'
  intro hr
  obtain ⟨t, h⟩ := h
  unfold World.cell? at hc
  rw [block_add, hr, h] at hc
  simp only at hc
  split at hc
  · cases hc
  · rcases ho : (ad.add 0).off with _ | _ | o <;> rw [ho] at hc <;> simp at hc
theorem att_more {xs ms : List Nat} {c k p : Nat} (h : p + c ≤ xs.length) : att (xs ++ ms) c k p = att xs c k p := by
  unfold att
  rw [List.drop_append_of_le_length (by omega), List.take_append_of_le_length (by simp; omega)]
theorem tries_more {xs ms : List Nat} {c k d p v q : Nat} (h : tries xs c k d p = some (v, q)) : tries (xs ++ ms) c k d p = some (v, q) := by
  generalize hm : xs.length - p = m
  induction m using Nat.strongRecOn generalizing p with
  | _ m ih =>
    by_cases a : p + c ≤ xs.length
    · have e := att_more (ms := ms) (k := k) a
      have a2 : p + c ≤ (xs ++ ms).length := by simp; omega
      by_cases l : att xs c k p < d
      · rw [tries_hit a l] at h
        rw [tries_hit a2 (by rw [e]; exact l), e]
        exact h
      · by_cases hc : 0 < c
        · rw [tries_next a l hc] at h
          rw [tries_next a2 (by rw [e]; exact l) hc]
          exact ih (xs.length - (p + c)) (by omega) h rfl
        · rw [tries, dif_pos a, if_neg l, dif_neg hc] at h
          cases h
    · rw [tries_dry a] at h
      cases h
/-- A draw, of words and of more words. -/
theorem ans_more (xs ms : List Nat) (i d : Nat) (hi : i ≤ xs.length) :
    (∃ v j : Nat, ans xs (i : Int) d = (v, (j : Int), 0) ∧ ans (xs ++ ms) (i : Int) d = (v, (j : Int), 0) ∧ i ≤ j ∧ j ≤ xs.length ∧ v < d) ∨
    (ans xs (i : Int) d = (0, (i : Int), 7) ∧ ans (xs ++ ms) (i : Int) d = (0, (i : Int), 7)) ∨
    (ans xs (i : Int) d = (0, (i : Int), 8)) := by
  by_cases h0 : d = 0
  · subst h0
    exact Or.inr (Or.inl ⟨ans_zero _ _, ans_zero _ _⟩)
  · rcases ht : tries xs (mw d) (mb d) d i with _ | ⟨v, j⟩
    · exact Or.inr (Or.inr (ans_dry h0 hi ht))
    · obtain ⟨h1, h2, h3, _⟩ := tries_some ht
      exact Or.inl ⟨v, j, ans_hit h0 hi ht, ans_hit h0 (by simp; omega) (tries_more ht), by omega, h2, h3⟩
end Go.Proofs.Ythhphbaimpcjfaa
