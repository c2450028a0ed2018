/- The walks of isText, small. -/
import Derived.Test.YtnacokogihanoaaDoorWalkP
namespace Go.Proofs.YtnacokogihanoaaDoor
open Go.RowKit
set_option linter.unusedVariables false
set_option linter.unusedSimpArgs false

/-- A string's bytes. -/
abbrev L (s : ByteArray) : List UInt8 := s.data.toList
theorem L_len (s : ByteArray) : (L s).length = s.size := by simp [L]
theorem L_at (s : ByteArray) (k : Nat) (h : k < s.size) : (L s)[k]'(by rw [L_len]; exact h) = s[k] := rfl
theorem L_of (l : List UInt8) : L ⟨l.toArray⟩ = l := rfl
theorem of_L (s : ByteArray) : (⟨(L s).toArray⟩ : ByteArray) = s := rfl
theorem L_take (s : ByteArray) (k : Nat) (h : k ≤ s.size) : L (s.extract 0 k) = (L s).take k := by
  simp [L, ByteArray.data_extract]
theorem L_drop (s : ByteArray) (k : Nat) (h : k ≤ s.size) : L (s.extract k s.size) = (L s).drop k := by
  have e : s.data.size = s.size := rfl
  simp only [L, ByteArray.data_extract, Array.toList_extract, List.extract_eq_take_drop]
  rw [List.take_of_length_le]
  simp [e]
theorem empty_no {s : ByteArray} (h : 0 < s.size) : s.toList.isEmpty = false ∧ ¬ s.toList = [] := by
  have : s.toList = L s := ByteArray.toList_eq s
  rw [this]
  have hl := L_len s
  constructor
  · cases e : L s with
    | nil => rw [e] at hl; simp at hl; omega
    | cons a b => rfl
  · intro e
    rw [e] at hl
    simp at hl
    omega

/-- Whether it is a text. -/
def RetI (l : List UInt8) (w : World) (e : Ending) (w' : World) : Prop := ∃ b : Bool, e = .returned (.bool b) ∧ (b = true ↔ isT l) ∧ w = w'
theorem not_isD {c : UInt8} (h : (c.toNat : Int) < 48 ∨ 57 < (c.toNat : Int)) : ¬ isD c := by unfold isD; omega
theorem byte48 {c : UInt8} (h : (c.toNat : Int) = 48) : c = 48 := by
  apply UInt8.toNat_inj.1
  have : (48 : UInt8).toNat = 48 := rfl
  omega
theorem L_head (s : ByteArray) (h : 0 < s.size) : (L s).head? = some s[0] := by
  rw [List.head?_eq_getElem?, List.getElem?_eq_getElem (by rw [L_len]; exact h)]
  rfl
set_option maxHeartbeats 2000000 in
set_option maxRecDepth 100000 in
theorem isText_any (s : ByteArray) (hs : s.size ≤ 9223372036854775807) (w : World) : Calls Tryd.prog 57 #[.string s] w fun e w' => RetI (L s) w e w' := by
  by_cases h0 : 0 < s.size
  · obtain ⟨he, hne⟩ := empty_no h0
    have NE : Hid (L s ≠ []) := by
      intro e
      have := L_len s
      rw [e] at this
      simp at this
      omega
    have HH := Lib.hid (L_head s h0)
    by_cases hx : (s[0].toNat : Int) = 48
    · by_cases h1 : 1 < s.size
      · have N1 : Hid (¬ isT (L s)) := fun t => t.2.1 ⟨by rw [HH.out, byte48 hx], by rw [L_len]; exact h1⟩
        have i1 : (1 : Int) < s.size := by omega
        go_enter Tryd.func57, Tryd.ntmps57
        go_wp2_with fail
        go_ret
        exact ⟨false, rfl, ⟨(fun h => by cases h), fun h => absurd h N1.out⟩, rfl⟩
      · have N1 : Hid (¬ ((L s).head? = some 48 ∧ 1 < (L s).length)) := fun t => by
          have := t.2
          rw [L_len] at this
          omega
        have i1 : ¬ (1 : Int) < s.size := by omega
        clear h1
        go_enter Tryd.func57, Tryd.ntmps57
        go_wp2_with fail
        go_loopg [18] s.size (fun q s18 wr => ∃ k : Nat, k + q = s.size ∧ s18 = .int .i64 (k : Int) ∧ Hid (∀ c ∈ (L s).take k, isD c) ∧ w = wr)
        case atStart => exact ⟨0, by omega, rfl, (by intro c hc; simp at hc), rfl⟩
        case round =>
          obtain ⟨k, hq, rfl, hd, rfl⟩ := hrel
          have HQ := Lib.hid hq
          by_cases lt : k < s.size
          · have il : (k : Int) < s.size := by omega
            have il0 : (0 : Int) ≤ k := by omega
            have et : (L s).take (k + 1) = (L s).take k ++ [s[k]] := List.take_succ_eq_append_getElem (by rw [L_len]; exact lt)
            have hm : s[k] ∈ L s := List.getElem_mem (by rw [L_len]; exact lt)
            by_cases c1 : (s[k].toNat : Int) < 48
            · have NT : Hid (¬ isT (L s)) := fun t => not_isD (Or.inl c1) (t.2.2 _ hm)
              clear hq et hm
              go_wp2_with fail
              go_ret
              exact ⟨false, rfl, ⟨(fun h => by cases h), fun h => absurd h NT.out⟩, rfl⟩
            · by_cases c2 : 57 < (s[k].toNat : Int)
              · have NT : Hid (¬ isT (L s)) := fun t => not_isD (Or.inr c2) (t.2.2 _ hm)
                clear hq et hm
                go_wp2_with fail
                go_ret
                exact ⟨false, rfl, ⟨(fun h => by cases h), fun h => absurd h NT.out⟩, rfl⟩
              · have HD : Hid (∀ c ∈ (L s).take (k + 1), isD c) := by
                  intro c hc
                  rw [et, List.mem_append] at hc
                  rcases hc with hc | hc
                  · exact hd.out c hc
                  · rw [List.mem_singleton] at hc
                    rw [hc]
                    unfold isD
                    omega
                clear hq et hm hd
                go_wp2_with fail
                go_roundg (gk - 1)
                case measure => have := HQ.out; omega
                case rel => exact ⟨k + 1, by have := HQ.out; omega, by go_num, HD, rfl⟩
          · obtain rfl : s.size = k := by omega
            have il : ¬ (s.size : Int) < s.size := by omega
            have YT : Hid (isT (L s)) := by
              refine ⟨NE.out, N1.out, ?_⟩
              have := hd.out
              rwa [List.take_of_length_le (by rw [L_len]; exact Nat.le_refl _)] at this
            clear hq hd
            go_wp2_with fail
            go_ret
            exact ⟨true, rfl, ⟨fun _ => YT.out, fun _ => rfl⟩, rfl⟩
    · have N1 : Hid (¬ ((L s).head? = some 48 ∧ 1 < (L s).length)) := fun t => by
        have := t.1
        rw [HH.out] at this
        injection this with this
        rw [this] at hx
        exact hx rfl
      have hx2 : ((s[0].toNat : Int) == 48) = false := by simpa using hx
      clear hx
      go_enter Tryd.func57, Tryd.ntmps57
      go_wp2_with fail
      go_loopg [18] s.size (fun q s18 wr => ∃ k : Nat, k + q = s.size ∧ s18 = .int .i64 (k : Int) ∧ Hid (∀ c ∈ (L s).take k, isD c) ∧ w = wr)
      case atStart => exact ⟨0, by omega, rfl, (by intro c hc; simp at hc), rfl⟩
      case round =>
        obtain ⟨k, hq, rfl, hd, rfl⟩ := hrel
        have HQ := Lib.hid hq
        by_cases lt : k < s.size
        · have il : (k : Int) < s.size := by omega
          have il0 : (0 : Int) ≤ k := by omega
          have et : (L s).take (k + 1) = (L s).take k ++ [s[k]] := List.take_succ_eq_append_getElem (by rw [L_len]; exact lt)
          have hm : s[k] ∈ L s := List.getElem_mem (by rw [L_len]; exact lt)
          by_cases c1 : (s[k].toNat : Int) < 48
          · have NT : Hid (¬ isT (L s)) := fun t => not_isD (Or.inl c1) (t.2.2 _ hm)
            clear hq et hm
            go_wp2_with fail
            go_ret
            exact ⟨false, rfl, ⟨(fun h => by cases h), fun h => absurd h NT.out⟩, rfl⟩
          · by_cases c2 : 57 < (s[k].toNat : Int)
            · have NT : Hid (¬ isT (L s)) := fun t => not_isD (Or.inr c2) (t.2.2 _ hm)
              clear hq et hm
              go_wp2_with fail
              go_ret
              exact ⟨false, rfl, ⟨(fun h => by cases h), fun h => absurd h NT.out⟩, rfl⟩
            · have HD : Hid (∀ c ∈ (L s).take (k + 1), isD c) := by
                intro c hc
                rw [et, List.mem_append] at hc
                rcases hc with hc | hc
                · exact hd.out c hc
                · rw [List.mem_singleton] at hc
                  rw [hc]
                  unfold isD
                  omega
              clear hq et hm hd
              go_wp2_with fail
              go_roundg (gk - 1)
              case measure => have := HQ.out; omega
              case rel => exact ⟨k + 1, by have := HQ.out; omega, by go_num, HD, rfl⟩
        · obtain rfl : s.size = k := by omega
          have il : ¬ (s.size : Int) < s.size := by omega
          have YT : Hid (isT (L s)) := by
            refine ⟨NE.out, N1.out, ?_⟩
            have := hd.out
            rwa [List.take_of_length_le (by rw [L_len]; exact Nat.le_refl _)] at this
          clear hq hd
          go_wp2_with fail
          go_ret
          exact ⟨true, rfl, ⟨fun _ => YT.out, fun _ => rfl⟩, rfl⟩
  · have e : L s = [] := List.eq_nil_of_length_eq_zero (by rw [L_len]; omega)
    have e2 : s = ⟨#[]⟩ := by rw [← of_L s, e]
    have NT : Hid (¬ isT (L s)) := fun t => t.1 e
    subst e2
    clear e h0
    go_enter Tryd.func57, Tryd.ntmps57
    go_wp2_with fail
    go_ret
    exact ⟨false, rfl, ⟨(fun h => by cases h), fun h => absurd h NT.out⟩, rfl⟩

theorem rd_take_lt {l : List UInt8} (h : ∀ c ∈ l, isD c) (k : Nat) : rd (l.take k) < 10 ^ (l.take k).length := rd_lt _ (fun c hc => h c (List.mem_of_mem_take hc))
set_option maxHeartbeats 1000000 in
set_option maxRecDepth 100000 in
theorem small_any (s : ByteArray) (hs : s.size ≤ 9) (hd : ∀ c ∈ L s, isD c) (w : World) : Calls Tryd.prog 59 #[.string s] w fun e w' => e = .returned (lv (rd (L s))) ∧ w = w' := by
  have HD := Lib.hid hd
  clear hd
  go_enter Tryd.func59, Tryd.ntmps59
  go_wp2_with fail
  go_loopg [3, 7] s.size (fun q s3 s7 wr => ∃ k : Nat, k + q = s.size ∧ s7 = .int .i64 (k : Int) ∧ s3 = lv (rd ((L s).take k)) ∧ w = wr)
  case atStart => exact ⟨0, by omega, rfl, rfl, rfl⟩
  case round =>
    obtain ⟨k, hq, rfl, rfl, rfl⟩ := hrel
    have HQ := Lib.hid hq
    by_cases lt : k < s.size
    · have il : (k : Int) < s.size := by omega
      have il0 : (0 : Int) ≤ k := by omega
      have et : (L s).take (k + 1) = (L s).take k ++ [s[k]] := List.take_succ_eq_append_getElem (by rw [L_len]; exact lt)
      have hm := HD.out s[k] (List.getElem_mem (by rw [L_len]; exact lt))
      unfold isD at hm
      obtain ⟨m1, m2⟩ := hm
      have E : Hid (rd ((L s).take (k + 1)) = rd ((L s).take k) * 10 + (s[k].toNat - 48)) := by unfold Hid; rw [et, rd_snoc]
      have b := rd_take_lt HD.out k
      rw [List.length_take, L_len, Nat.min_eq_left (by omega)] at b
      have b2 : rd ((L s).take k) < 100000000 := Nat.lt_of_lt_of_le b (by have : 10 ^ k ≤ 10 ^ 8 := Nat.pow_le_pow_right (by decide) (by omega); exact this)
      generalize rd ((L s).take k) = r at *
      have c1 : (48 : Int) ≤ s[k].toNat := by omega
      have c2 : (s[k].toNat : Int) ≤ 57 := by omega
      clear hq et b
      go_wp2_with fail
      go_roundg (gk - 1)
      case measure => have := HQ.out; omega
      case rel =>
        go_light
        refine ⟨k + 1, by have := HQ.out; omega, by go_num, ?_, rfl⟩
        rw [E.out]
        exact congrArg (Value.int .u32) (by omega)
    · obtain rfl : s.size = k := by omega
      have il : ¬ (s.size : Int) < s.size := by omega
      have E : Hid ((L s).take s.size = L s) := List.take_of_length_le (by rw [L_len]; exact Nat.le_refl _)
      clear hq
      go_wp2_with fail
      go_ret
      exact ⟨by rw [E.out]; rfl, rfl⟩
end Go.Proofs.YtnacokogihanoaaDoor
