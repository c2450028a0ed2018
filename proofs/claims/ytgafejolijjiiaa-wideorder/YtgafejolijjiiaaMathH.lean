/- Plain arithmetic: a text is read as it was written; texts stand as their numbers do. -/
import Derived.Test.YtgafejolijjiiaaWalkH
import Derived.Test.YtgafejolijjiiaaMathG
namespace Go.Proofs.Ytgafejolijjiiaa
set_option linter.unusedVariables false
set_option linter.unusedSimpArgs false

theorem runTo_append (l r : List UInt8) : ∀ n, runTo (l ++ r) n = (runTo l n).bind (runTo r) := by
  induction l with
  | nil => intro n; rfl
  | cons c l ih =>
    intro n
    simp only [List.cons_append, runTo]
    by_cases h : digB n (c.toNat : Int) = true
    · rw [if_pos h, if_pos h, ih]
    · rw [if_neg h, if_neg h]; rfl
theorem digB_dig {m d : Nat} (hd : d < 10) : digB m ((dig d).toNat : Int) = fitsB (m * 10 + d) ∧ digN m ((dig d).toNat : Int) = cut (m * 10 + d) := by
  have e := dig_toNat hd
  have e2 : (((dig d).toNat : Int) - 48).toNat = d := by omega
  rw [digB_eq (by omega) (by omega), digN_eq (by omega) (by omega), e2]
  exact ⟨rfl, rfl⟩
theorem runTo_dig {m d : Nat} (hd : d < 10) (h : Fits (m * 10 + d)) : runTo [dig d] m = some (m * 10 + d) := by
  obtain ⟨e1, e2⟩ := digB_dig (m := m) hd
  rw [runTo, e1, e2, fitsB_yes h, cut_yes h, if_pos rfl, runTo]
theorem runTo_dig_no {m d : Nat} (hd : d < 10) (h : ¬ Fits (m * 10 + d)) : runTo [dig d] m = none := by
  obtain ⟨e1, e2⟩ := digB_dig (m := m) hd
  rw [runTo, e1, fitsB_no h]; rfl
theorem fits_div {m : Nat} (h : Fits m) : Fits (m / 10) := by unfold Fits at *; omega
theorem runTo_textF : ∀ (f m : Nat), Fits m → m < 10 ^ f → runTo (textF f m) 0 = some m := by
  intro f
  induction f with
  | zero => intro m hm h; simp at h; subst h; rfl
  | succ f ih =>
    intro m hm h
    by_cases h0 : m = 0
    · subst h0; rw [textF_zero]; rfl
    · rw [textF_succ h0, runTo_append, ih (m / 10) (fits_div hm) (div_lt_ten h)]
      have e : m / 10 * 10 + m % 10 = m := by omega
      show runTo [dig (m % 10)] (m / 10) = some m
      rw [runTo_dig (Nat.mod_lt _ (by decide)) (by rw [e]; exact hm), e]
theorem fits_pow {n : Nat} (h : Fits n) : n / 10 < 10 ^ 38 := by unfold Fits at h; omega
theorem runTo_text {n : Nat} (h : Fits n) : runTo (text n) 0 = some n := by
  rw [text_eq, runTo_append, runTo_textF 38 (n / 10) (fits_div h) (fits_pow h)]
  have e : n / 10 * 10 + n % 10 = n := by omega
  show runTo [dig (n % 10)] (n / 10) = some n
  rw [runTo_dig (Nat.mod_lt _ (by decide)) (by rw [e]; exact h), e]
theorem dig_ne {d : Nat} (h1 : 0 < d) (h2 : d < 10) : dig d ≠ 48 := by
  intro e
  have := dig_toNat h2
  rw [e] at this
  have : (48 : UInt8).toNat = 48 := rfl
  omega
theorem head_textF : ∀ (f m : Nat), m ≠ 0 → m < 10 ^ f → ∃ d, 0 < d ∧ d < 10 ∧ (textF f m).head? = some (dig d) := by
  intro f
  induction f with
  | zero => intro m h0 h; simp at h; exact absurd h h0
  | succ f ih =>
    intro m h0 h
    rw [textF_succ h0]
    by_cases h1 : m / 10 = 0
    · rw [h1, textF_zero]
      exact ⟨m % 10, by omega, by omega, rfl⟩
    · obtain ⟨d, d1, d2, e⟩ := ih (m / 10) h1 (div_lt_ten h)
      refine ⟨d, d1, d2, ?_⟩
      rw [List.head?_append, e]; rfl
theorem text_head {n : Nat} (h : Fits n) : (n < 10 ∧ text n = [dig n]) ∨ ∃ d, 0 < d ∧ d < 10 ∧ (text n).head? = some (dig d) := by
  rw [text_eq]
  by_cases h1 : n / 10 = 0
  · left
    rw [h1, textF_zero]
    have : n % 10 = n := by omega
    rw [this]
    exact ⟨by omega, rfl⟩
  · right
    obtain ⟨d, d1, d2, e⟩ := head_textF 38 (n / 10) h1 (fits_pow h)
    exact ⟨d, d1, d2, by rw [List.head?_append, e]; rfl⟩
theorem text_ne (n : Nat) : text n ≠ [] := by rw [text_eq]; simp
theorem readO_run {l : List UInt8} (h0 : l ≠ []) (h : ¬ (l.head? = some 48 ∧ 1 < l.length)) : readO l = runTo l 0 := by
  unfold readO; rw [if_neg (fun c => c.elim h0 h)]
/-- A text is read as it was written. -/
theorem read_text {n : Nat} (h : Fits n) : readO (text n) = some n := by
  rw [readO_run (text_ne n), runTo_text h]
  rcases text_head h with ⟨_, e⟩ | ⟨d, d1, d2, e⟩
  · rw [e]; intro c; simp at c
  · rw [e]; intro c; exact dig_ne d1 d2 (Option.some.inj c.1)
/-- With a 0 behind. -/
theorem read_ten {n : Nat} (h : Fits n) (h0 : n ≠ 0) : readO (text n ++ [48]) = if fitsB (n * 10) = true then some (n * 10) else none := by
  have e48 : (48 : UInt8) = dig 0 := rfl
  rw [readO_run (by simp), runTo_append, runTo_text h]
  · show runTo [48] n = _
    rw [e48]
    by_cases f : Fits (n * 10)
    · rw [if_pos (fitsB_yes f), runTo_dig (by decide) (by simpa using f)]; rfl
    · rw [if_neg (by rw [fitsB_no f]; decide), runTo_dig_no (by decide) (by simpa using f)]
  · rcases text_head h with ⟨l, e⟩ | ⟨d, d1, d2, e⟩
    · rw [e]; intro c; exact dig_ne (by omega) l (Option.some.inj c.1)
    · rw [List.head?_append, e]; intro c; exact dig_ne d1 d2 (Option.some.inj c.1)
theorem read_nought_ten : readO (text 0 ++ [48]) = none := by decide +kernel

/-- The number of digits that stand one behind the other. -/
def valD : List UInt8 → Nat
  | [] => 0
  | c :: r => (c.toNat - 48) * 10 ^ r.length + valD r
def AllD (l : List UInt8) : Prop := ∀ c ∈ l, 48 ≤ c.toNat ∧ c.toNat ≤ 57
theorem valD_lt : ∀ (l : List UInt8), AllD l → valD l < 10 ^ l.length
  | [], _ => by simp [valD]
  | c :: r, h => by
    have h1 := h c (by simp)
    have h2 := valD_lt r (fun x hx => h x (by simp [hx]))
    have h3 : (c.toNat - 48) * 10 ^ r.length ≤ 9 * 10 ^ r.length := Nat.mul_le_mul_right _ (by omega)
    simp only [valD, List.length_cons, Nat.pow_succ]
    omega
theorem less_iff : ∀ (l r : List UInt8), l.length = r.length → AllD l → AllD r → (Op.bytesLess l r = true ↔ valD l < valD r)
  | [], [], _, _, _ => by simp [Op.bytesLess, valD]
  | [], _ :: _, h, _, _ => by simp at h
  | _ :: _, [], h, _, _ => by simp at h
  | a :: x, b :: y, h, ha, hb => by
    have hl : x.length = y.length := by simpa using h
    have a1 := ha a (by simp)
    have b1 := hb b (by simp)
    have hx := valD_lt x (fun c hc => ha c (by simp [hc]))
    have hy := valD_lt y (fun c hc => hb c (by simp [hc]))
    have ih := less_iff x y hl (fun c hc => ha c (by simp [hc])) (fun c hc => hb c (by simp [hc]))
    simp only [Op.bytesLess, valD, Bool.or_eq_true, Bool.and_eq_true, decide_eq_true_eq, beq_iff_eq, ih]
    rw [hl] at hx ⊢
    generalize 10 ^ y.length = k at *
    rcases Nat.lt_trichotomy a.toNat b.toNat with c | c | c
    · have c' : a < b := c
      have : (a.toNat - 48 + 1) * k ≤ (b.toNat - 48) * k := Nat.mul_le_mul_right _ (by omega)
      rw [Nat.add_mul] at this
      constructor
      · intro _; omega
      · intro _; exact Or.inl c'
    · have c' : a = b := UInt8.toNat_inj.1 c
      subst c'
      constructor
      · rintro (h | h)
        · exact absurd h (UInt8.lt_irrefl a)
        · omega
      · intro h; exact Or.inr ⟨rfl, by omega⟩
    · have : (b.toNat - 48 + 1) * k ≤ (a.toNat - 48) * k := Nat.mul_le_mul_right _ (by omega)
      rw [Nat.add_mul] at this
      constructor
      · rintro (h | h)
        · have h' : a.toNat < b.toNat := h
          omega
        · have := h.1; subst this; omega
      · intro h; omega
theorem valD_append (l r : List UInt8) : valD (l ++ r) = valD l * 10 ^ r.length + valD r := by
  induction l with
  | nil => simp [valD]
  | cons c l ih =>
    simp only [List.cons_append, valD, ih, List.length_append]
    rw [Nat.pow_add, Nat.add_mul, ← Nat.mul_assoc]
    omega
theorem valD_dig {d : Nat} (h : d < 10) : valD [dig d] = d := by
  have := dig_toNat h
  simp only [valD, List.length_nil]
  omega
theorem allD_dig {d : Nat} (h : d < 10) : AllD [dig d] := by
  intro c hc
  simp at hc; subst hc
  have := dig_toNat h
  omega
theorem allD_append {l r : List UInt8} (h : AllD l) (k : AllD r) : AllD (l ++ r) := by
  intro c hc
  rcases List.mem_append.1 hc with e | e
  · exact h c e
  · exact k c e
theorem textF_facts : ∀ (f m : Nat), m < 10 ^ f → valD (textF f m) = m ∧ AllD (textF f m) ∧ (m ≠ 0 → 10 ^ ((textF f m).length - 1) ≤ m ∧ textF f m ≠ []) := by
  intro f
  induction f with
  | zero => intro m h; simp at h; subst h; exact ⟨rfl, fun c hc => by simp [textF] at hc, fun c => absurd rfl c⟩
  | succ f ih =>
    intro m h
    by_cases h0 : m = 0
    · subst h0; rw [textF_zero]; exact ⟨rfl, fun c hc => by simp at hc, fun c => absurd rfl c⟩
    · obtain ⟨i1, i2, i3⟩ := ih (m / 10) (div_lt_ten h)
      have lt := Nat.mod_lt m (show 0 < 10 by decide)
      rw [textF_succ h0]
      refine ⟨?_, allD_append i2 (allD_dig lt), fun _ => ⟨?_, by simp⟩⟩
      · rw [valD_append, i1, valD_dig lt]; simp; omega
      · by_cases h1 : m / 10 = 0
        · rw [h1, textF_zero]; simp; omega
        · obtain ⟨j1, j2⟩ := i3 h1
          obtain ⟨x, hx⟩ : ∃ x, (textF f (m / 10)).length = x + 1 := ⟨(textF f (m / 10)).length - 1, by have := List.length_pos_iff.2 j2; omega⟩
          rw [hx] at j1
          simp only [List.length_append, hx, List.length_cons, List.length_nil]
          show 10 ^ (x + 1 + 1 - 1) ≤ m
          have : x + 1 + 1 - 1 = x + 1 := by omega
          rw [this, Nat.pow_succ]
          have j1' : 10 ^ x ≤ m / 10 := j1
          omega
theorem text_facts {n : Nat} (h : Fits n) : valD (text n) = n ∧ AllD (text n) ∧ 1 ≤ (text n).length ∧ (n ≠ 0 → 10 ^ ((text n).length - 1) ≤ n) := by
  obtain ⟨i1, i2, i3⟩ := textF_facts 38 (n / 10) (fits_pow h)
  have lt := Nat.mod_lt n (show 0 < 10 by decide)
  rw [text_eq]
  refine ⟨?_, allD_append i2 (allD_dig lt), by simp, fun h0 => ?_⟩
  · rw [valD_append, i1, valD_dig lt]; simp; omega
  · by_cases h1 : n / 10 = 0
    · rw [h1, textF_zero]; simp; omega
    · obtain ⟨j1, j2⟩ := i3 h1
      obtain ⟨x, hx⟩ : ∃ x, (textF 38 (n / 10)).length = x + 1 := ⟨(textF 38 (n / 10)).length - 1, by have := List.length_pos_iff.2 j2; omega⟩
      rw [hx] at j1
      simp only [List.length_append, hx, List.length_cons, List.length_nil]
      have : x + 1 + (0 + 1) - 1 = x + 1 := by omega
      rw [this, Nat.pow_succ]
      have j1' : 10 ^ x ≤ n / 10 := j1
      omega
/-- Numbers stand as their texts do. -/
theorem text_order {a b : Nat} (ha : Fits a) (hb : Fits b) : a < b ↔ (text a).length < (text b).length ∨ ((text a).length = (text b).length ∧ Op.bytesLess (text a) (text b) = true) := by
  obtain ⟨a1, a2, a3, a4⟩ := text_facts ha
  obtain ⟨b1, b2, b3, b4⟩ := text_facts hb
  have la := valD_lt _ a2
  have lb := valD_lt _ b2
  rw [a1] at la
  rw [b1] at lb
  rcases Nat.lt_trichotomy (text a).length (text b).length with c | c | c
  · have : 10 ^ (text a).length ≤ 10 ^ ((text b).length - 1) := Nat.pow_le_pow_right (by decide) (by omega)
    have hb0 : b ≠ 0 := by
      intro e; subst e
      have : (text 0).length = 1 := by decide +kernel
      omega
    have := b4 hb0
    exact ⟨fun _ => Or.inl c, fun _ => by omega⟩
  · have := less_iff _ _ c a2 b2
    rw [a1, b1] at this
    rw [this]
    exact ⟨fun h => Or.inr ⟨c, h⟩, fun h => h.elim (fun h => by omega) (fun h => h.2)⟩
  · have : 10 ^ (text b).length ≤ 10 ^ ((text a).length - 1) := Nat.pow_le_pow_right (by decide) (by omega)
    have ha0 : a ≠ 0 := by
      intro e; subst e
      have : (text 0).length = 1 := by decide +kernel
      omega
    have := a4 ha0
    exact ⟨fun h => by omega, fun h => by omega⟩
theorem text_len {n : Nat} : (text n).length ≤ 39 := by
  have : ∀ f m, (textF f m).length ≤ f := by
    intro f
    induction f with
    | zero => intro m; simp [textF]
    | succ f ih =>
      intro m
      by_cases h : m = 0
      · subst h; rw [textF_zero]; simp
      · rw [textF_succ h]; have := ih (m / 10); simp; omega
  rw [text_eq]
  have := this 38 (n / 10)
  simp; omega
end Go.Proofs.Ytgafejolijjiiaa
