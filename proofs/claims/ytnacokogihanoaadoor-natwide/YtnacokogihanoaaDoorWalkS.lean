/- The walk of Read. -/
import Derived.Test.YtnacokogihanoaaDoorWalkR
namespace Go.Proofs.YtnacokogihanoaaDoor
open Go.RowKit
set_option linter.unusedVariables false
set_option linter.unusedSimpArgs false

theorem own_form {w : World} {base n : Nat} {v : Value} {xs : List Value} (h : w.ownsRow base 37 1 v n xs) : ∃ A c, v = .slice A n c ∧ (0 < n → ∃ g, A = some ⟨g, 0, none⟩) := by
  rcases h.2 with ⟨rfl, rfl⟩ | ⟨g, cap, cur, rfl, _⟩
  · exact ⟨none, 0, rfl, fun h => absurd h (by omega)⟩
  · exact ⟨_, cap, rfl, fun _ => ⟨g, rfl⟩⟩
/-- What is in the loop of Read. -/
structure Rdr (w : World) (s : ByteArray) (q : Nat) (s0 s4 : Value) (wr : World) : Prop where
  ex : ∃ (p : List UInt8) (t : ByteArray) (A : Option Addr) (n c : Nat), s0 = .string t ∧ t.size = q ∧ s4 = .slice A n c ∧ L s = p ++ L t ∧ (p = [] ∨ t.size % 9 = 0) ∧
    wr.ownsRow w.heap.size 37 1 (.slice A n c) n ((limbs (rd p)).map lv) ∧ (0 < n → ∃ g, A = some ⟨g, 0, none⟩) ∧ n ≤ 64
  bl : Below w.heap.size w wr

set_option maxHeartbeats 2000000 in
set_option maxRecDepth 100000 in
theorem read_yes (s : ByteArray) (hs : s.size ≤ 9223372036854775807) (h : isT (L s)) (w : World) : Calls Tryd.prog 16 #[.string s] w fun e w' => RetE (fitN (rd (L s))) (fitE (rd (L s))) w e w' := by
  have K := Lib.hid (isText_any s hs)
  have HT := Lib.hid h
  have S0 : Rdr w s s.size (.string s) (.slice none 0 0) w := ⟨⟨[], s, none, 0, 0, rfl, rfl, rfl, rfl, Or.inl rfl, by
    have : rd [] = 0 := rfl
    rw [this, limbs_zero]
    exact World.ownsRow_nil w _ _ _, fun h => absurd h (by omega), by omega⟩, Below.refl _ _⟩
  clear h
  go_enter Tryd.func16, Tryd.ntmps16
  go_wp2_with fail
  refine (K.out _).mono ?_
  rintro e w' ⟨b, rfl, hb, rfl⟩
  obtain rfl : b = true := hb.2 HT.out
  clear hb
  go_wp2_with fail
  go_loopg [0, 4] s.size (fun q s0 s4 wr => Rdr w s q s0 s4 wr)
  case atStart => exact S0
  case round =>
    clear S0 K
    obtain ⟨p, t, A, n, c, rfl, tq, rfl, es, hp, own, hA, n64⟩ := hrel.ex
    have BL := hrel.bl
    clear hrel
    subst tq
    have hl : ln (rd p) = n := by have := own.1; rw [← limbs_length]; simpa using this
    have ts : t.size ≤ 9223372036854775807 := by
      have := congrArg List.length es
      rw [List.length_append, L_len, L_len] at this
      omega
    by_cases h0 : 0 < t.size
    · obtain ⟨k, hk⟩ : ∃ k, k = (t.size - 1) % 9 + 1 := ⟨_, rfl⟩
      have ek : ((t.size : Int) - 1) % 9 + 1 = (k : Int) := by omega
      have k1 : (0 : Int) < t.size := by omega
      have k3 : (k : Int) ≤ t.size := by omega
      have k4 : (0 : Int) ≤ k := by omega
      have kb : k ≤ t.size := by omega
      have k9 : k ≤ 9 := by omega
      have kp : 0 < k := by omega
      have e1 := L_take t k kb
      have e2 := L_drop t k kb
      have z1 : (t.extract 0 k).size = k := by rw [← L_len, e1, List.length_take, L_len]; omega
      have z2 : (t.extract k t.size).size = t.size - k := by rw [← L_len, e2, List.length_drop, L_len]
      have hd : ∀ c ∈ L (t.extract 0 k), isD c := by
        intro c hc
        rw [e1] at hc
        refine HT.out.2.2 c ?_
        rw [es]
        exact List.mem_append_right _ (List.mem_of_mem_take hc)
      have KS := Lib.hid (small_any (t.extract 0 k) (by omega) hd)
      have rl := rd_lt _ hd
      rw [L_len, z1] at rl
      have rb : rd (L (t.extract 0 k)) < 1000000000 := Nat.lt_of_lt_of_le rl (by have : 10 ^ k ≤ 10 ^ 9 := Nat.pow_le_pow_right (by decide) k9; exact this)
      have er : rd (p ++ L (t.extract 0 k)) = rd p * 1000000000 + rd (L (t.extract 0 k)) := by
        rw [rd_append, L_len, z1]
        rcases hp with rfl | hp
        · have : rd [] = 0 := rfl
          rw [this, Nat.zero_mul, Nat.zero_mul]
        · have : k = 9 := by omega
          rw [this]
      have es2 : L s = (p ++ L (t.extract 0 k)) ++ L (t.extract k t.size) := by
        rw [e1, e2, List.append_assoc, List.take_append_drop, es]
      have KT := Lib.hid (fun (W : World) (hW : w.heap.size ≤ W.heap.size) (ho : W.ownsRow w.heap.size 37 1 (.slice A n c) n ((limbs (rd p)).map lv)) => timesAnd_any (z := rd (L (t.extract 0 k))) ho hA hW (by omega) (by omega))
      rw [← er] at KT
      have OWN := Lib.hid own
      have OL := Lib.hid own.lt
      have ES := Lib.hid es2
      generalize hr : rd (p ++ L (t.extract 0 k)) = r at *
      have HR := Lib.hid hr
      generalize rd (L (t.extract 0 k)) = v at *
      have hmod : (t.size - k) % 9 = 0 := by omega
      clear own es hd rl er es2 hr hk e1 e2
      go_wp2_with fail
      refine (KS.out _).mono ?_
      rintro e w1 ⟨rfl, rfl⟩
      go_wp2_with fail
      refine (KT.out _ BL.size OWN.out).mono ?_
      rintro e w2 ⟨v2, rfl, own2, GR⟩
      obtain ⟨A2, c2, rfl, hA2⟩ := own_form own2
      have BL2 : Below w.heap.size w w2 := BL.grown GR BL.size (fun k e => (OL.out k e).1)
      by_cases big : ln r ≤ 64
      · have i1 : (ln r : Int) ≤ 64 := by omega
        have i2 : (k : Int) ≤ t.size := k3
        have T2 : Hid (Rdr w s (t.size - k) (.string (t.extract k t.size)) (.slice A2 (ln r) c2) w2) := ⟨⟨p ++ L (t.extract 0 k), t.extract k t.size, A2, ln r, c2, rfl, z2, rfl, ES.out, Or.inr (by rw [z2]; exact hmod), by rw [HR.out]; exact own2, hA2, big⟩, BL2⟩
        clear own2 GR BL BL2
        go_wp2_with fail
        go_roundg (t.size - k)
        case measure => omega
        case rel =>
          go_light
          exact T2.out
      · have i1 : ¬ (ln r : Int) ≤ 64 := by omega
        have mono : r ≤ rd (L s) := by rw [← HR.out, ES.out]; exact rd_mono _ _
        have big2 : ¬ ln (rd (L s)) ≤ 64 := fun q => big (Nat.le_trans (ln_mono mono) q)
        have F1 := Lib.hid (fitN_no big2); have F2 := Lib.hid (fitE_no big2)
        clear own2 GR BL big2 mono
        go_wp2_with fail
        go_ret2
        exact ⟨_, _, _, by rw [F2.out]; rfl, by rw [F1.out]; exact lim_zero _ _ _ (by omega), BL2⟩
    · have e0 : L t = [] := List.eq_nil_of_length_eq_zero (by rw [L_len]; omega)
      rw [e0, List.append_nil] at es
      subst es
      have k1 : ¬ (0 : Int) < t.size := by omega
      have F1 := Lib.hid (fitN_yes (r := rd (L s)) (by omega)); have F2 := Lib.hid (fitE_yes (r := rd (L s)) (by omega))
      obtain ⟨A3, c3, e3, L3⟩ := own_lim own (lo_limbs _)
      injection e3 with e4 e5 e6
      subst e4 e6
      have L3 := Lib.hid L3
      clear own hp
      go_wp2_with fail
      go_ret2
      exact ⟨_, _, _, by rw [F2.out]; rfl, by rw [F1.out]; exact L3.out, BL⟩

set_option maxRecDepth 100000 in
theorem read_no (s : ByteArray) (hs : s.size ≤ 9223372036854775807) (h : ¬ isT (L s)) (w : World) : Calls Tryd.prog 16 #[.string s] w fun e w' => e = .returned (.tuple #[.slice none 0 0, .int .i64 2]) ∧ w = w' := by
  have K := Lib.hid (isText_any s hs)
  have HT := Lib.hid h
  clear h
  go_enter Tryd.func16, Tryd.ntmps16
  go_wp2_with fail
  refine (K.out _).mono ?_
  rintro e w' ⟨b, rfl, hb, rfl⟩
  obtain rfl : b = false := by
    cases b with
    | false => rfl
    | true => exact absurd (hb.1 rfl) HT.out
  clear hb
  go_wp2_with fail
  go_ret2
  exact ⟨rfl, rfl⟩
end Go.Proofs.YtnacokogihanoaaDoor
