/- The document's answers: the walk of Text. -/
import Derived.Test.YtnacokogihanoaaDoorRefGcd
import Derived.Test.YtnacokogihanoaaDoorRefOf
import Derived.Laws.IdiomStrings
namespace Go.Proofs.YtnacokogihanoaaDoor
open Go.RowKit
set_option linter.unusedVariables false
set_option linter.unusedSimpArgs false

theorem dtext_last {x : Nat} (h : x / 10 = 0) : dtext x = [dig (x % 10)] := by
  have e : x % 10 = x := by omega
  rw [e]
  by_cases hx : x = 0
  · rw [hx, dtext_zero]; rfl
  · rw [dtext_pos hx, tens_pos hx, h, tens_zero, e]; rfl
theorem dtext_step {x : Nat} (h : x / 10 ≠ 0) : dtext x = dtext (x / 10) ++ [dig (x % 10)] := by
  rw [dtext_pos h, dtext_pos (by omega), tens_pos (n := x) (by omega)]
  simp
theorem cat_cons (c : UInt8) (t : List UInt8) : (⟨#[c]⟩ ++ ⟨t.toArray⟩ : ByteArray) = ⟨(c :: t).toArray⟩ := by
  apply ByteArray.ext
  rw [ByteArray.data_append]
  simp
theorem hval_drop (X : List Nat) (k : Nat) (h : k < X.length) : hval (X.drop k) = X[k] + H16 * hval (X.drop (k + 1)) := by
  rw [List.drop_eq_getElem_cons h, hval_cons]
theorem take_set (X ss : List Nat) (i v : Nat) (h : i < X.length) : (X.take (i + 1) ++ ss).set i v = X.take i ++ (v :: ss) := by
  rw [List.take_succ_eq_append_getElem h, List.append_assoc, List.set_append_right _ _ (by simp; omega)]
  simp [Nat.min_eq_left (Nat.le_of_lt h)]
theorem take_at (X ss : List Nat) (i : Nat) (h : i < X.length) : (X.take (i + 1) ++ ss)[i]? = some X[i] := by
  rw [List.getElem?_append_left (by simp; omega), List.getElem?_take, if_pos (by omega), List.getElem?_eq_getElem h]
/-- What is in the inner loop of Text. -/
structure Tdv (w : World) (g : Nat) (X : List Nat) (zs : List Value) (i r : Nat) (wr : World) : Prop where
  ss : ∃ ss, ss.length + i = X.length ∧ Ld ss ∧ hval (X.drop i) = 10 * hval ss + r ∧ (0 < X.length → Hrow wr g (X.take i ++ ss) zs)
  r10 : r < 10
  t : Turn w wr g
section
variable {w : World} {g : Nat} {X : List Nat} {zs : List Value} {i r : Nat} {wr : World}
theorem Tdv.cell (h : Tdv w g X zs (i + 1) r wr) (hx : i < X.length) : wr.cell? ⟨g, i, none⟩ = some (.int .u64 (X[i] : Int)) ∧ wr.frozen? ⟨g, i, none⟩ = false := by
  obtain ⟨ss, a, b, c, q⟩ := h.ss
  exact ⟨(q (by omega)).cell' (take_at X ss i hx), (q (by omega)).melt _⟩
theorem Tdv.step (h : Tdv w g X zs (i + 1) r wr) (hx : i < X.length) (LX : Ld X) : Tdv w g X zs i ((65536 * r + X[i]) % 10) (wr.setCell ⟨g, i, none⟩ (hv ((65536 * r + X[i]) / 10))) := by
  obtain ⟨ss, a, b, c, q⟩ := h.ss
  have bx := LX.at_ i hx
  have br := h.r10
  refine ⟨⟨((65536 * r + X[i]) / 10) :: ss, by simp; omega, .cons (by omega) b, ?_, fun z => ?_⟩, Nat.mod_lt _ (by decide), h.t.setCell _ _⟩
  · rw [hval_drop X i hx, c, hval_cons, H16_eq]; omega
  · have := (q z).set_ i (by simp; omega) ((65536 * r + X[i]) / 10)
    rwa [take_set X ss i _ hx] at this
theorem Tdv.done (h : Tdv w g X zs 0 r wr) : ∃ ss, ss.length = X.length ∧ Ld ss ∧ hval X = 10 * hval ss + r ∧ (0 < X.length → Hrow wr g ss zs) := by
  obtain ⟨ss, a, b, c, q⟩ := h.ss
  exact ⟨ss, by omega, b, by simpa using c, fun z => by simpa using q z⟩
end
theorem u64_quo (r x : Nat) : Value.int IntKind.u64 ((65536 * (r : Int) + (x : Int)) / 10) = hv ((65536 * r + x) / 10) := congrArg (Value.int .u64) (by omega)
theorem u64_rem (r x : Nat) : Value.int IntKind.u64 ((65536 * (r : Int) + (x : Int)) % 10) = hv ((65536 * r + x) % 10) := congrArg (Value.int .u64) (by omega)
theorem conv_byte (W : World) (r : Nat) (hr : r < 10) : (convert 75 9 (.slice (some ⟨W.heap.size, 0, none⟩) 1 1)).run Tryd.prog (W.alloc (.cells #[.int .u8 (48 + (r : Int))] 5)) = .ok (.string ⟨[dig r].toArray⟩) (W.alloc (.cells #[.int .u8 (48 + (r : Int))] 5)) := by
  refine run_convert_bytes_back _ 75 9 5 ⟨W.heap.size, 0, none⟩ _ [dig r] Tryd.underlying75 Tryd.underlying5 Tryd.underlying9 ?_
  intro j hj
  have j0 : j = 0 := by simpa using hj
  subst j0
  have ha : (⟨W.heap.size, 0, none⟩ : Addr).add 0 = ⟨W.heap.size, 0, none⟩ := by unfold Addr.add; rw [if_pos rfl]
  rw [ha]
  have := dig_toNat hr
  simp only [List.getElem_cons_zero]
  rw [this]
  simp [go_sem]

set_option maxHeartbeats 4000000 in
set_option maxRecDepth 100000 in
theorem refText_any {A : Option Addr} {n c a : Nat} {w : World} (ha : Lim w A n c (limbs a)) (la : ln a ≤ 64) : Calls Tryd.prog 15 #[.slice A n c] w fun e w' => e = .returned (.string ⟨(dtext a).toArray⟩) ∧ Below w.heap.size w w' := by
  have N0 := Lib.hid (Ns.mk ha la)
  obtain ⟨K0, hK0, h630⟩ : ∃ K0, K0 = 9 * 70 ∧ a < 10 ^ K0 := ⟨_, rfl, lt_630 la⟩
  have hK1 : K0 ≤ 640 := by omega
  clear hK0
  obtain ⟨D, hD⟩ : ∃ D, dtext a = D := ⟨_, rfl⟩
  have H0 : Hid (a < 10 ^ K0 ∧ dtext a ++ [] = D ∧ ln a ≤ 64) := ⟨h630, by rw [hD]; exact List.append_nil _, la⟩
  clear h630
  rw [hD]
  clear ha la hD
  go_enter Tryd.func15, Tryd.ntmps15
  go_wp2_with fail
  go_loopg [0, 3] a (fun x s0 s3 wr => ∃ (t : List UInt8) (k : Nat), s3 = .string ⟨t.toArray⟩ ∧ t.length + k ≤ 640 ∧ Hid (x < 10 ^ k ∧ dtext x ++ t = D ∧ ln x ≤ 64) ∧ Hid (Ns x s0 wr) ∧ Hid (Below w.heap.size w wr))
  case atStart => exact ⟨[], K0, rfl, by simpa using hK1, H0, N0, Below.refl _ _⟩
  case round =>
    clear H0 N0
    obtain ⟨t, k, rfl, tk, HX, NX, BL⟩ := hrel
    obtain ⟨X, rfl⟩ : ∃ X, X = gk := ⟨gk, rfl⟩
    obtain ⟨A1, n1, c1, rfl, hn1, L1⟩ := NX.out
    obtain ⟨T, hT⟩ : ∃ T, 2 * n1 = T := ⟨_, rfl⟩
    have ET := Lib.hid (show 2 * (n1 : Int) = (T : Int) by omega)
    have KH := Lib.hid (half_any (n := T) L1 (by omega))
    have VA : Hid (hval (halves (limbs X) T) = X) := by unfold Hid; rw [← hT, halves_whole (by rw [L1.len]; exact Nat.le_refl _), val_limbs]
    have LX := Lib.hid (ld_halves L1.lo T)
    have NXl := Lib.hid (halves_len (limbs X) T)
    have HT := Lib.hid hT
    have T128 : T ≤ 128 := by omega
    have tl : ¬ 9223372036854775807 < 1 + t.length := by omega
    clear hT L1
    go_wp2_with fail
    rw [ET.out]
    refine KH.out.mono ?_
    rintro e w1 ⟨v1, rfl, O1, B1⟩
    obtain ⟨A2, c2, g2, z2, rfl, gb, _, R⟩ := own_any O1
    have R := Lib.hid R; have GB := Lib.hid gb
    have B01 := Lib.hid (below_step BL.out B1)
    have GB2 : Hid (w.heap.size ≤ g2) := Nat.le_trans BL.out.size GB.out
    generalize halves (limbs X) T = Xs at *
    have S0 : Tdv w1 g2 Xs z2 T 0 w1 := ⟨⟨[], by rw [NXl.out]; simp, .nil, by rw [List.drop_of_length_le (by rw [NXl.out]; exact Nat.le_refl _)]; rfl, fun q => by
      have := (R.out (by rw [← NXl.out]; exact q)).2.2
      rw [List.take_of_length_le (by rw [NXl.out]; exact Nat.le_refl _), List.append_nil]
      exact this⟩, by decide, Turn.refl _ _⟩
    clear O1 B1 gb KH
    go_wp2_with fail
    go_loopg [5, 7] T (fun g s5 s7 wq => ∃ r : Nat, g ≤ T ∧ s7 = .int .i64 ((g : Int) - 1) ∧ s5 = .int .u64 (r : Int) ∧ Tdv w1 g2 Xs z2 g r wq)
    case atStart => exact ⟨0, Nat.le_refl _, rfl, rfl, S0⟩
    case round =>
      clear S0
      obtain ⟨r, hg, rfl, rfl, S⟩ := hrel
      by_cases hz : gk = 0
      · subst hz
        have ek : ((0 : Nat) : Int) - 1 = -1 := by omega
        rw [ek]
        obtain ⟨ss, sl, sd, sv, RR⟩ := S.done
        rw [NXl.out] at sl RR
        rw [VA.out] at sv
        have hr := S.r10
        have eq1 : hval ss = X / 10 := by omega
        have eq2 : r = X % 10 := by omega
        have T12 := Lib.hid (B01.out.trans (S.t.below GB2.out))
        have HS := hl_of (fun q => (R.out q).1) RR sl
        have KW := whole_at (c := c2) HT.out HS sd (by omega)
        rw [eq1] at KW
        have KW := Lib.hid KW
        have EQ2 := Lib.hid eq2
        have hconv : ∀ W : World, _ := fun W => conv_byte W r hr
        clear S ss sl sd sv RR HS eq1 eq2 ek
        go_wp2_with fail
        refine KW.out.mono ?_
        rintro e w3 ⟨A3, n3, c3, rfl, L3, B3⟩
        have zq := ns_zero L3
        have B03 := Lib.hid ((below_step T12.out B3).alloc (below_step T12.out B3).size (.cells #[.int .u8 (48 + (r : Int))] 5))
        have hc3 := hconv w3
        have L4 := Lib.hid (L3.alloc (.cells #[.int .u8 (48 + (r : Int))] 5))
        clear hconv L3 B3
        by_cases q0 : X / 10 = 0
        · obtain rfl := zq.1 q0
          have E : Hid (dig r :: t = D) := by
            have := HX.out.2.1
            rw [dtext_last q0, ← EQ2.out] at this
            exact this
          clear zq q0
          go_wp2_with fail
          rw [cat_cons, E.out]
          go_ret
          exact ⟨rfl, B03.out⟩
        · have np : ((n3 : Int) == 0) = false := by
            have : n3 ≠ 0 := fun e => q0 (zq.2 e)
            simpa using this
          have k0 : 0 < k := by
            rcases Nat.eq_zero_or_pos k with e | e
            · have := HX.out.1
              rw [e, Nat.pow_zero] at this
              omega
            · exact e
          have H2 : Hid (X / 10 < 10 ^ (k - 1) ∧ dtext (X / 10) ++ (dig r :: t) = D ∧ ln (X / 10) ≤ 64) := by
            obtain ⟨h1, h2, h3⟩ := HX.out
            refine ⟨?_, ?_, Nat.le_trans (ln_mono (Nat.div_le_self _ _)) h3⟩
            · refine (Nat.div_lt_iff_lt_mul (by decide)).2 ?_
              rw [← Nat.pow_succ, show (k - 1).succ = k by omega]
              exact h1
            · rw [dtext_step q0, ← EQ2.out] at h2
              simpa using h2
          have N4 := Lib.hid (Ns.mk L4.out H2.out.2.2)
          have LTX : Hid (X / 10 < X) := by unfold Hid; omega
          have tk2 : (dig r :: t).length + (k - 1) ≤ 640 := by simp; omega
          have TK := Lib.hid tk2
          clear zq q0 k0 tk2
          go_wp2_with fail
          go_roundg (X / 10)
          case measure => exact LTX.out
          case rel =>
            go_light
            rw [cat_cons]
            exact ⟨dig r :: t, k - 1, rfl, TK.out, H2, N4, B03⟩
      · obtain ⟨i, rfl⟩ : ∃ i, gk = i + 1 := ⟨gk - 1, by omega⟩
        have ek : ((i + 1 : Nat) : Int) - 1 = (i : Int) := by omega
        rw [ek]
        obtain ⟨rfl, lw, rr⟩ := R.out (by omega)
        have ix : i < Xs.length := by rw [NXl.out]; omega
        obtain ⟨cc, cf⟩ := S.cell ix
        have bx := LX.out.at_ i ix
        have hr := S.r10
        have ST := Lib.hid (S.step ix LX.out)
        generalize Xs[i] = x at *
        have il : (i : Int) < T := by omega
        have il0 : (0 : Int) ≤ i := by omega
        clear S rr lw ek hz
        go_wp2_with fail
        go_roundg i
        case measure => omega
        case rel =>
          go_light
          refine ⟨_, by omega, by go_num, u64_rem r x, ?_⟩
          rw [u64_quo]
          exact ST.out
end Go.Proofs.YtnacokogihanoaaDoor
