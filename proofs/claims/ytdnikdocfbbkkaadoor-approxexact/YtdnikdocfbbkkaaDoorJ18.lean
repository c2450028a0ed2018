/- The document's answer for float64: Float. What is asked of the program's approx, call by call; the fixed answer of its statements. The program's approx: Exact, Error. The program's approx: Error; all three calls are as is asked. What the laws' proofs share: arguments that are limbs; the rows' last step. What the laws of approx share: arguments that are fractions, words, float64s, opened. -/
import Derived.Test.YtdnikdocfbbkkaaDoorJ17
import Derived.Test.YtdnikdocfbbkkaaDoorJ05
import Derived.Test.YtdnikdocfbbkkaaDoorCards
import Derived.Test.YtdnikdocfbbkkaaDoorTie
import Derived.ProofKit
import Derived.OpenShut
import Derived.Carry
import Derived.Lay
import Derived.SevenTiedAt
import Derived.MakeChecks
import Derived.Lib.SmallJoins
import Derived.Laws.Cover2
namespace Go.Proofs.YtdnikdocfbbkkaaDoor
open Go.RowKit
set_option linter.unusedVariables false
set_option linter.unusedSimpArgs false

/-- samphireref04.middle, and what a fraction is to it. -/
theorem mid_any {n : Nat} (h : n < 9218868437227405312) : ∃ X Y, (∀ p q, sgn (p * Y) (X * q) = sgn (p * (2 * pw 1074)) (q * (fv n + fv (n + 1)))) ∧ ln X ≤ 68 ∧ ln Y ≤ 69 ∧
    ∀ w, Calls Tryd.prog 100 #[.int .u64 (n : Int)] w fun e w' => RetR X Y w e w' := by
  obtain ⟨xa, ya, ha, ka⟩ := of4_any (x := n) (b := n) (by omega) h
  by_cases t : n < 9218868437227405311
  · obtain ⟨xb, yb, hb, kb⟩ := of4_any (x := n + 1) (b := n + 1) (by omega) (by omega)
    obtain ⟨l1, l2⟩ := ln_mid ha.two hb.two
    exact ⟨_, _, fun p q => mid_cmp ha.g hb.g ha.y0 hb.y0, l1, l2, mid_in ha.two hb.two t ka kb⟩
  · obtain rfl : n = 9218868437227405311 := by omega
    have hb := of2_inf
    obtain ⟨l1, l2⟩ := ln_mid ha.two hb
    exact ⟨_, _, fun p q => mid_cmp (b := 9218868437227405311) ha.g hb.g ha.y0 hb.y0, l1, l2, mid_top ha.two hb rfl rfl rfl ka⟩
theorem sgn_three {a b : Nat} {c : Int} (h : sgn a b = c) : c = -1 ∨ c = 0 ∨ c = 1 := by
  rcases Nat.lt_trichotomy a b with k | k | k
  · rw [sgn_lt k] at h; exact Or.inl h.symm
  · subst k; rw [sgn_eq] at h; exact Or.inr (Or.inl h.symm)
  · rw [sgn_gt k] at h; exact Or.inr (Or.inr h.symm)
/-- A fraction as it lies, in a block of the call's own. -/
structure Ft (w : World) (A : Option Addr) (n c : Nat) (A' : Option Addr) (n' c' p q : Nat) (wr : World) : Prop where
  c0 : wr.cell? ⟨w.heap.size, 0, none⟩ = some (.slice A n c)
  c1 : wr.cell? ⟨w.heap.size, 1, none⟩ = some (.slice A' n' c')
  l0 : Lim wr A n c (limbs p)
  l1 : Lim wr A' n' c' (limbs q)
  bl : Below w.heap.size w wr
theorem Ft.next {w : World} {A A' : Option Addr} {n c n' c' p q : Nat} {W w1 : World} (s : Ft w A n c A' n' c' p q W) (hb : Below W.heap.size W w1) : Ft w A n c A' n' c' p q w1 :=
  ⟨keep_cell hb s.c0, keep_cell hb s.c1, s.l0.next hb, s.l1.next hb, below_step s.bl hb⟩
theorem half_way {l h : Nat} (k : l < h) : ((h : Int) - l) / 2 + l = ((l + (h - l) / 2 : Nat) : Int) := by omega
set_option maxHeartbeats 4000000 in
set_option maxRecDepth 100000 in
/-- samphireref04.Float. -/
theorem float4_any {A A' : Option Addr} {n c n' c' p q : Nat} {w : World} (ha : Lim w A n c (limbs p)) (hb : Lim w A' n' c' (limbs q)) (lp : ln p ≤ 64) (lq : ln q ≤ 64) (q0 : q ≠ 0) :
    Calls Tryd.prog 55 #[.agg #[.slice A n c, .slice A' n' c']] w fun e w' => ∃ b, Fl p q b ∧ e = .returned (.float .f64 b) ∧ Below w.heap.size w w' := by
  have T0 : Ft w A n c A' n' c' p q (w.alloc (.cells #[.slice A n c, .slice A' n' c'] 50)) := ⟨by simp [go_sem], by simp [go_sem], ha.alloc _, hb.alloc _, (Below.refl _ _).alloc (Nat.le_refl _) _⟩
  have H0 := Hv.start p q
  have LP := Lib.hid lp; have LQ := Lib.hid lq; have Q0 := Lib.hid q0
  clear ha hb lp lq q0
  go_enter Tryd.func55, Tryd.ntmps55
  go_wp2_with fail
  generalize w.alloc (.cells #[.slice A n c, .slice A' n' c'] 50) = w0 at *
  go_loopg [3, 4, 5, 6] 9218868437227405312 (fun g s3 s4 _ _ wr => ∃ l h : Nat, h = l + g ∧ s3 = .int .u64 (l : Int) ∧ s4 = .int .u64 (h : Int) ∧ Hid (Hv p q l h) ∧ Ft w A n c A' n' c' p q wr)
  case atStart => exact ⟨0, 9218868437227405312, rfl, rfl, rfl, H0, T0⟩
  case round =>
    clear H0 T0
    obtain ⟨l, h, hg, rfl, rfl, H, T⟩ := hrel
    have top := H.out.top
    by_cases lt : l < h
    · have il : (l : Int) < h := by omega
      obtain ⟨m, hm⟩ : ∃ m, l + (h - l) / 2 = m := ⟨_, rfl⟩
      have m1 : l ≤ m := by omega
      have m2 : m < h := by omega
      obtain ⟨X, Y, hXY, lX, lY, KM⟩ := mid_any (n := m) (by omega)
      obtain ⟨sg, hsg⟩ : ∃ sg, sgn (p * Y) (X * q) = sg := ⟨_, rfl⟩
      have bs := Lib.hid (bel_sgn (p := p) (q := q) (b := m) ((hXY p q).symm.trans hsg))
      have KM := Lib.hid KM
      have HS := Lib.hid (sgn_three hsg)
      have c0 := T.c0; have c1 := T.c1
      have em : (l : Int) + ((h : Int) - l) / 2 = (m : Int) := by omega
      have M1 := Lib.hid m1; have M2 := Lib.hid m2; have HG := Lib.hid hg; have TOP := Lib.hid top
      have KC := Lib.hid (fun (W : World) (D D' : Option Addr) (i j i' j' : Nat) (hb : Below _ _ W) (h1 : Lim W D i j (limbs X)) (h2 : Lim W D' i' j' (limbs Y)) => cmp4_any (T.l0.next hb) (T.l1.next hb) h1 h2 (Nat.le_trans LP.out (by decide)) (Nat.le_trans LQ.out (by decide)) (Nat.le_trans lX (by decide)) (Nat.le_trans lY (by decide)))
      rw [hsg] at KC
      have CC := Lib.hid (fun (W : World) (hb : Below _ _ W) => (⟨keep_cell hb c0, keep_cell hb c1⟩ : W.cell? ⟨w.heap.size, 0, none⟩ = some (.slice A n c) ∧ W.cell? ⟨w.heap.size, 1, none⟩ = some (.slice A' n' c')))
      have TT := Lib.hid T
      clear hXY lX lY hsg T lt hm m1 m2 hg
      go_upto_region 4 with fail
      clear em il top
      clear c0 c1
      go_region_held3 (fun W => W.cell? ⟨w.heap.size, 0, none⟩ = some (.slice A n c) ∧ W.cell? ⟨w.heap.size, 1, none⟩ = some (.slice A' n' c'))
        ((refine CC.out _ ?_; repeat (first | with_reducible exact Below.refl _ _ | with_reducible exact (Below.refl _ _).drew | refine below_step ?_ (by assumption))))
        (first
          | (go_at_call 100; (with_reducible refine (KM.out _).mono ?_); rintro e r1 ⟨A1, n1, c1, A2, n2, c2, rfl, L1, L2, C1⟩)
          | (go_at_call 99; (with_reducible refine (KC.out _ _ _ _ _ _ _ ?_ ?_ ?_).mono ?_); (· repeat (first | with_reducible exact Below.refl _ _ | with_reducible exact (Below.refl _ _).drew | refine below_step ?_ (by assumption))); (· repeat (first | assumption | refine Lim.next ?_ (by assumption))); (· repeat (first | assumption | refine Lim.next ?_ (by assumption))); rintro e r2 ⟨rfl, C2⟩))
      have TN := Lib.hid ((TT.out.next (Below.refl _ _).drew).next C1 |>.next C2)
      have hm3 : m < 9218868437227405312 := Nat.lt_of_lt_of_le M2.out TOP.out
      clear L1 L2 C1 C2 CC TT KM KC TOP
      have hsg : sg = -1 ∨ sg = 0 ∨ sg = 1 := HS.out
      clear HS
      have t2 : (m : Int).tmod 2 = ((m % 2 : Nat) : Int) := (Int.ofNat_tmod m 2).symm
      rcases hsg with rfl | rfl | rfl
      · have BB : Hid (Bel p q m) := bs.out.2 (Or.inl rfl)
        clear bs t2
        go_wp2_with fail
        go_roundg (m - l)
        case measure => have := HG.out; have := M2.out; have := M1.out; omega
        case rel =>
          go_light
          exact ⟨l, m, by have := M1.out; omega, rfl, rfl, H.out.down M1.out M2.out BB.out, TN.out⟩
      · by_cases ev : m % 2 = 0
        · have BB : Hid (Bel p q m) := bs.out.2 (Or.inr ⟨rfl, ev⟩)
          rw [ev] at t2
          clear bs ev
          go_wp2_with fail
          go_roundg (m - l)
          case measure => have := HG.out; have := M2.out; have := M1.out; omega
          case rel =>
            go_light
            exact ⟨l, m, by have := M1.out; omega, rfl, rfl, H.out.down M1.out M2.out BB.out, TN.out⟩
        · have BB : Hid (¬ Bel p q m) := fun z => by
            rcases bs.out.1 z with z | z
            · exact absurd z (by decide)
            · exact ev z.2
          have ev : m % 2 = 1 := by omega
          rw [ev] at t2
          clear bs ev
          go_wp2_with fail
          go_roundg (h - (m + 1))
          case measure => have := HG.out; have := M2.out; have := M1.out; omega
          case rel =>
            go_light
            exact ⟨m + 1, h, by have := M2.out; omega, by go_num, rfl, H.out.up Q0.out M1.out M2.out BB.out, TN.out⟩
      · have BB : Hid (¬ Bel p q m) := fun z => by
          rcases bs.out.1 z with z | z
          · exact absurd z (by decide)
          · exact absurd z.1 (by decide)
        clear bs t2
        go_wp2_with fail
        go_roundg (h - (m + 1))
        case measure => have := HG.out; have := M2.out; have := M1.out; omega
        case rel =>
          go_light
          exact ⟨m + 1, h, by have := M2.out; omega, by go_num, rfl, H.out.up Q0.out M1.out M2.out BB.out, TN.out⟩
    · have il : ¬ (l : Int) < h := by omega
      have FL := Lib.hid (H.out.done lt)
      have TT := Lib.hid T
      clear hg top lt H T
      go_wp2_with (simp only [ffrom l])
      go_ret
      exact ⟨l, FL.out, rfl, TT.out.bl⟩
end Go.Proofs.YtdnikdocfbbkkaaDoor
namespace Go.Proofs.YtdnikdocfbbkkaaDoor
open Go.RowKit
set_option linter.unusedVariables false
set_option linter.unusedSimpArgs false

/-- How far a fraction is from another one, by layer 3. -/
@[irreducible] def errR (p q x y : Nat) : Ans := if cmpE p q x y = 0 then (if cmpN p q x y = 0 then (0, 1, 0) else if cmpN p q x y < 0 then subR x y p q else subR p q x y) else (0, 0, cmpE p q x y)
theorem errR_same {p q x y : Nat} (h : cmpE p q x y = 0) (k : cmpN p q x y = 0) : errR p q x y = (0, 1, 0) := by unfold errR; rw [if_pos h, if_pos k]
/-- The calls of approx, as the document asks. -/
structure App : Prop where
  fl : ∀ {A A' : Option Addr} {n c n' c' p q : Nat} {w : World}, Lim w A n c (limbs p) → Lim w A' n' c' (limbs q) → Fq p q → Calls Tryd.prog 53 #[.agg #[.slice A n c, .slice A' n' c']] w fun e w' => ∃ b, Fl p q b ∧ e = .returned (.tuple #[.float .f64 b, .int .i64 0]) ∧ Below w.heap.size w w'
  fn : ∀ {A A' : Option Addr} {n c n' c' : Nat} {xs ys : List Nat} {w : World}, Lim w A n c xs → Lim w A' n' c' ys → ¬ Fr xs ys → Calls Tryd.prog 53 #[.agg #[.slice A n c, .slice A' n' c']] w fun e w' => e = .returned (.tuple #[.float .f64 0, .int .i64 1]) ∧ Below w.heap.size w w'
  ey : ∀ {x r : Nat} (s : Bool), x = (if s then 9223372036854775808 else 0) + r → r < 9218868437227405312 → (s = false ∨ r = 0) → ∃ X Y, Of1 r X Y ∧ ∀ w, Calls Tryd.prog 56 #[.float .f64 x] w fun e w' => RetA3 (X, Y, 0) w e w'
  en : ∀ {x r : Nat} (s : Bool), x = (if s then 9223372036854775808 else 0) + r → r < 9223372036854775808 → ¬ (r < 9218868437227405312 ∧ (s = false ∨ r = 0)) → ∀ w, Calls Tryd.prog 56 #[.float .f64 x] w fun e w' => RetA3 (0, 0, 1) w e w'
  er : ∀ {A A' : Option Addr} {n c n' c' p q b X Y : Nat} {w : World}, Lim w A n c (limbs p) → Lim w A' n' c' (limbs q) → Fq p q → Fl p q b → b < 9218868437227405312 → Of1 b X Y → Calls Tryd.prog 59 #[.agg #[.slice A n c, .slice A' n' c']] w fun e w' => RetA3 (errR p q X Y) w e w'
theorem pw_le {m n : Nat} (h : m ≤ n) : pw n = pw m * pw (n - m) := by rw [← pw_add, show m + (n - m) = n by omega]
theorem fl13 : Fl 1 3 4599676419421066581 := by
  have e1 : (4599676419421066581 : Nat) / 4503599627370496 = 1021 := by decide
  have e2 : (4599676419421066581 : Nat) % 4503599627370496 = 1501199875790165 := by decide
  have f1 : fv 4599676419421066581 = 6004799503160661 * pw 1020 := by rw [fv_high (by rw [e1]; decide), e1, e2]
  have u1 : ulp 4599676419421066581 = pw 1020 := by unfold ulp; rw [e1]
  have u2 : ulp 4599676419421066580 = pw 1020 := by unfold ulp; rw [show (4599676419421066580 : Nat) / 4503599627370496 = 1021 by decide]
  have s1 := fv_succ 4599676419421066581
  have s2 : fv 4599676419421066581 = fv 4599676419421066580 + ulp 4599676419421066580 := fv_succ 4599676419421066580
  have e54 : pw 54 = 18014398509481984 := by rw [pw_eq]
  have p1 : pw 1074 = pw 1020 * 18014398509481984 := by rw [pw_le (m := 1020) (by decide), ← e54]
  refine Fl.mk' (by decide) (by decide) (fun _ => Or.inl ?_) fun _ => ?_
  · rw [s1, f1, u1, p1]
    have := pw_pos 1020
    generalize pw 1020 = t at *
    omega
  · rw [show 4599676419421066581 - 1 = 4599676419421066580 by decide]
    have := pw_pos 1020
    unfold Bel
    rw [show 4599676419421066580 + 1 = 4599676419421066581 by decide, p1]
    rw [f1, u2] at s2
    rw [f1]
    generalize pw 1020 = t at *
    generalize fv 4599676419421066580 = z at *
    omega
theorem fv34 : fv 4604930618986332160 = pw 1072 * 3 := by
  have e1 : (4604930618986332160 : Nat) / 4503599627370496 = 1022 := by decide
  have e2 : (4604930618986332160 : Nat) % 4503599627370496 = 2251799813685248 := by decide
  have e51 : pw 51 = 2251799813685248 := by rw [pw_eq]
  rw [fv_high (by rw [e1]; decide), e1, e2, show (1072 : Nat) = (1022 - 1) + 51 by decide, pw_add (1022 - 1) 51, e51]
  generalize pw (1022 - 1) = t
  omega
theorem of34 {X Y : Nat} (h : Of1 4604930618986332160 X Y) : X = 3 ∧ Y = 4 := by
  have e := h.eq
  have e4 : pw 2 = 4 := by rw [pw_eq]
  rw [fv34, show pw 1074 = pw 1072 * 4 by rw [pw_le (m := 1072) (by decide), ← e4], red_scale (Nat.ne_of_gt (pw_pos _)), show red 3 4 = (3, 4, 0) by decide] at e
  injection e with a b
  injection b with b c
  exact ⟨a.symm, b.symm⟩
theorem fv58 : fv 4603804719079489536 = pw 1071 * 5 := by
  have e1 : (4603804719079489536 : Nat) / 4503599627370496 = 1022 := by decide
  have e2 : (4603804719079489536 : Nat) % 4503599627370496 = 1125899906842624 := by decide
  have e50 : pw 50 = 1125899906842624 := by rw [pw_eq]
  rw [fv_high (by rw [e1]; decide), e1, e2, show (1071 : Nat) = (1022 - 1) + 50 by decide, pw_add (1022 - 1) 50, e50]
  generalize pw (1022 - 1) = t
  omega
theorem fl58 : Fl 5 8 4603804719079489536 := by
  have e8 : pw 3 = 8 := by rw [pw_eq]
  refine fl_exact (by decide) ?_ (by decide)
  rw [fv58, show pw 1074 = pw 1071 * 8 by rw [pw_le (m := 1071) (by decide), ← e8]]
  generalize pw 1071 = t
  omega
theorem of58 : Of1 4603804719079489536 5 8 := by
  have e8 : pw 3 = 8 := by rw [pw_eq]
  refine of1_mk ?_ (Nat.le_trans (ln_le (k := 1) (by rw [B_eq]; decide)) (by decide)) (Nat.le_trans (ln_le (k := 1) (by rw [B_eq]; decide)) (by decide))
  rw [fv58, show pw 1074 = pw 1071 * 8 by rw [pw_le (m := 1071) (by decide), ← e8], red_scale (Nat.ne_of_gt (pw_pos _))]
  decide
theorem f58 : Fq 5 8 := ⟨lt64 (by decide), lt64 (by decide), by decide, by decide⟩
theorem f13 : Fq 1 3 := ⟨lt64 (by decide), lt64 (by decide), by decide, by decide⟩
theorem f34 : Fq 3 4 := ⟨lt64 (by decide), lt64 (by decide), by decide, by decide⟩
theorem err58 : errR 5 8 5 8 = (0, 1, 0) := errR_same (cmpE_yes (lt64 (by decide)) (lt64 (by decide))) (by rw [cmpN_yes (lt64 (by decide)) (lt64 (by decide))]; exact sgn_eq _)
theorem text34 : dtext 3 ++ 47 :: dtext 4 = [51, 47, 52] := by rw [dt 3 (by decide), dt 4 (by decide)]; rfl
end Go.Proofs.YtdnikdocfbbkkaaDoor
namespace Go.Proofs.YtdnikdocfbbkkaaDoor
open Go.RowKit
set_option linter.unusedVariables false
set_option linter.unusedSimpArgs false

theorem f64_fmt : FloatKind.f64.format = Ieee.double := rfl
theorem order_zero_eq {s : Bool} {x : Nat} (hx : x = (if s then 9223372036854775808 else 0)) : Ieee.double.order x 0 = some .eq := by
  cases s <;> subst hx <;> decide
set_option maxHeartbeats 4000000 in
set_option maxRecDepth 100000 in
theorem exact_zero {s : Bool} {x : Nat} (hx : x = (if s then 9223372036854775808 else 0)) (w : World) : Calls Tryd.prog 56 #[.float .f64 x] w fun e w' => RetA3 (0, 1, 0) w e w' := by
  have hx' : x = (if s then 9223372036854775808 else 0) + 0 := hx
  have KN : Hid (∀ W, Calls Tryd.prog 102 #[.float .f64 x] W fun e w' => e = .returned (.bool false) ∧ W = w') := fun W => isnan_call (by rw [f64_fmt, order_self_num hx' (by decide)]; rfl) W
  have KI : Hid (∀ W, Calls Tryd.prog 103 #[.float .f64 x, .int .i64 0] W fun e w' => e = .returned (.bool false) ∧ W = w') := fun W => isinf_call hx' (by decide) W
  have o := order_zero_eq hx
  have i1 : (FloatKind.f64.format.order x 0 == some .lt) = false := by rw [f64_fmt, o]; rfl
  have i2 : (FloatKind.f64.format.order x 0 == some .eq) = true := by rw [f64_fmt, o]; rfl
  have KW : Hid (∀ W, Calls Tryd.prog 50 #[.int .u64 0] W fun e w' => RetR 0 1 W e w') := fun W => whole_r 0 (by decide) W
  have S := (Fs.start w).box (.slice none 0 0) (.slice none 0 0)
  clear hx hx' o
  go_enter Tryd.func56, Tryd.ntmps56
  go_wp2_with fail
  generalize w.alloc (.cells #[.slice none 0 0, .slice none 0 0] 50) = w0 at *
  refine (KN.out _).mono ?_
  rintro e w' ⟨rfl, rfl⟩
  go_wp2_with fail
  refine (KI.out _).mono ?_
  rintro e w' ⟨rfl, rfl⟩
  go_wp2_with fail
  refine (KW.out _).mono ?_
  rintro e w1 ⟨A1, n1, c1', A2, n2, c2', rfl, L1, L2, B1⟩
  have S := ((S.next B1).put L1).put L2
  clear B1 L1 L2
  obtain ⟨⟨c0, c1, m0, m1, sz⟩, _⟩ := S.cel
  go_wp2_with fail
  go_light
  exact bodyPost_ret (v := .tuple #[.agg #[.slice A1 n1 c1', .slice A2 n2 c2'], .int .i64 0]) (by simp [results, Tryd.results56, go_sem, c0, c1]) rfl ⟨_, _, _, _, _, _, rfl, S.lie.2.1.put2 c0 c1 _ _, S.lie.1.put2 c0 c1 _ _, (S.bl.setCell (Nat.le_refl _) _).setCell (Nat.le_refl _) _⟩
set_option maxHeartbeats 4000000 in
set_option maxRecDepth 100000 in
theorem exact_num {r a b M : Nat} {z : Int} (r0 : r ≠ 0) (hr : r < 9218868437227405312) (hM : mant r = M) (hz : (ex r : Int) - 1075 = z) (ha : max 0 z = (a : Int)) (hb : max 0 (-z) = (b : Int)) (w : World) : Calls Tryd.prog 56 #[.float .f64 r] w fun e w' => RetA3 (red (M * pw a) (1 * pw b)) w e w' := by
  have hx' : r = (if false then 9223372036854775808 else 0) + r := by simp
  have KN : Hid (∀ W, Calls Tryd.prog 102 #[.float .f64 r] W fun e w' => e = .returned (.bool false) ∧ W = w') := fun W => isnan_call (by rw [f64_fmt, order_self_num (s := false) hx' hr]; rfl) W
  have KI : Hid (∀ W, Calls Tryd.prog 103 #[.float .f64 r, .int .i64 0] W fun e w' => e = .returned (.bool false) ∧ W = w') := fun W => by
    have := isinf_call (s := false) hx' (by omega) W
    rwa [decide_eq_false (by omega)] at this
  have KP : Hid (∀ W, Calls Tryd.prog 104 #[.float .f64 r] W fun e w' => e = .returned (.tuple #[.int .u64 (M : Int), .int .i64 z]) ∧ W = w') := fun W => hM ▸ hz ▸ parts_call hr W
  have i1 : (FloatKind.f64.format.order r 0 == some .lt) = false := by rw [f64_fmt, order_zero_num (s := false) hx' hr]; rfl
  have i2 : (FloatKind.f64.format.order r 0 == some .eq) = false := by
    rw [f64_fmt, order_rung (by omega) (by decide)]
    have : compare r 0 = .gt := Nat.compare_eq_gt.2 (Nat.pos_of_ne_zero r0)
    rw [this]; rfl
  have x1 := ex_pos r; have x2 := ex_lt hr
  have z1 : -1074 ≤ z := by omega
  have z2 : z ≤ 971 := by omega
  have wn : IntKind.i64.wrap (-z) = -z := by rw [IntKind.wrap_i64]; omega
  have lM : ln M ≤ 2 := by rw [← hM]; exact ln_mant r
  have wM : M < 18446744073709551616 := by rw [← hM]; have := mant_lt r; omega
  have LM : Hid (ln M ≤ 64) := Nat.le_trans lM (by decide)
  have LA : Hid (ln (M * pw a) ≤ 64) := Nat.le_trans (ln_mul lM (ln_pw (k := 31) (by omega))) (by decide)
  have LB : Hid (ln (1 * pw b) ≤ 64) := by unfold Hid; rw [Nat.one_mul]; exact Nat.le_trans (ln_pw (k := 34) (by omega)) (by decide)
  have L1 : Hid (ln 1 ≤ 64) := by unfold Hid; rw [ln_1]; decide
  have B0 : Hid (1 * pw b ≠ 0) := by unfold Hid; rw [Nat.one_mul]; exact Nat.ne_of_gt (pw_pos b)
  have KO : Hid (∀ W, Calls Tryd.prog 25 #[.int .u64 (M : Int)] W fun e w' => RetN M W e w') := fun W => of_any M wM W
  have K1 : Hid (∀ W, Calls Tryd.prog 25 #[.int .u64 1] W fun e w' => RetN 1 W e w') := fun W => of_any 1 (by decide) W
  have A1 : Hid (a < 2048) := by unfold Hid; omega
  have B1 : Hid (b < 2048) := by unfold Hid; omega
  have S := (Fs.start w).box (.slice none 0 0) (.slice none 0 0)
  clear hx' hz x1 x2 lM wM hM r0 hr
  go_enter Tryd.func56, Tryd.ntmps56
  go_wp2_with fail
  generalize w.alloc (.cells #[.slice none 0 0, .slice none 0 0] 50) = w0 at *
  refine (KN.out _).mono ?_
  rintro e w' ⟨rfl, rfl⟩
  go_wp2_with fail
  refine (KI.out _).mono ?_
  rintro e w' ⟨rfl, rfl⟩
  go_wp2_with fail
  refine (KP.out _).mono ?_
  rintro e w' ⟨rfl, rfl⟩
  go_wp2_with fail
  refine (KO.out _).mono ?_
  rintro e w1 ⟨D1, n1, c1, rfl, M1, C1⟩
  have S := (S.next C1).put M1
  clear C1 M1 KO KP KI KN
  go_wp2_with fail
  refine (ashift_any S.lie.1 LM.out A1.out LA.out).mono ?_
  rintro e w2 ⟨D2, n2, c2, rfl, M1, C1⟩
  have S := (S.next C1).put M1
  clear C1 M1 LM A1
  go_wp2_with fail
  refine (K1.out _).mono ?_
  rintro e w3 ⟨D3, n3, c3, rfl, M1, C1⟩
  have S := (S.next C1).put M1
  clear C1 M1 K1
  go_wp2_with fail
  refine (ashift_any S.lie.1 L1.out B1.out LB.out).mono ?_
  rintro e w4 ⟨D4, n4, c4, rfl, M1, C1⟩
  have S := (S.next C1).put M1
  clear C1 M1 L1 B1
  go_wp2_with fail
  refine (make_yes S.lie.2.2.1 S.lie.1 LA.out LB.out B0.out).mono ?_
  rintro e w5 ⟨D5, n5, c5, D6, n6, c6, rfl, M1, M2, C1⟩
  have S := ((S.next C1).put M1).put M2
  clear C1 M1 M2
  obtain ⟨⟨c0, c1, m0, m1, sz⟩, _⟩ := S.cel
  go_wp2_with fail
  go_light
  exact bodyPost_ret (v := .tuple #[.agg #[.slice D5 n5 c5, .slice D6 n6 c6], .int .i64 (red (M * pw a) (1 * pw b)).2.2]) (by simp [results, Tryd.results56, go_sem, c0, c1]) rfl ⟨_, _, _, _, _, _, rfl, S.lie.2.1.put2 c0 c1 _ _, S.lie.1.put2 c0 c1 _ _, (S.bl.setCell (Nat.le_refl _) _).setCell (Nat.le_refl _) _⟩
/-- What Exact makes is the fraction. -/
theorem exact_of {r a b : Nat} {z : Int} (hr : r < 9218868437227405312) (hz : (ex r : Int) - 1075 = z) (ha : max 0 z = (a : Int)) (hb : max 0 (-z) = (b : Int)) : ∃ X Y, Of1 r X Y ∧ red (mant r * pw a) (1 * pw b) = (X, Y, 0) := by
  by_cases c : 1075 ≤ ex r
  · refine ⟨_, _, of1_high hr c, ?_⟩
    have hb0 : b = 0 := by omega
    have ha0 : a = ex r - 1075 := by omega
    rw [hb0, ha0]
    rw [pw_zero, Nat.one_mul]
    exact red_self (Nat.gcd_one_right _)
  · obtain ⟨X, Y, h1, h2⟩ := of1_low (b := r) (by omega)
    refine ⟨X, Y, h2, ?_⟩
    obtain rfl : a = 0 := by omega
    obtain rfl : b = 1075 - ex r := by omega
    rw [pw_zero, Nat.mul_one, Nat.one_mul]
    exact h1
theorem exact_yes {x r : Nat} (s : Bool) (hx : x = (if s then 9223372036854775808 else 0) + r) (hr : r < 9218868437227405312) (hs : s = false ∨ r = 0) : ∃ X Y, Of1 r X Y ∧ ∀ w, Calls Tryd.prog 56 #[.float .f64 x] w fun e w' => RetA3 (X, Y, 0) w e w' := by
  by_cases r0 : r = 0
  · subst r0
    exact ⟨0, 1, of1_zero (mant_zero.2 rfl), fun w => exact_zero hx w⟩
  · obtain rfl : s = false := by
      rcases hs with h | h
      · exact h
      · exact absurd h r0
    obtain rfl : x = r := by simpa using hx
    obtain ⟨a, ha⟩ : ∃ a : Nat, max 0 ((ex x : Int) - 1075) = (a : Int) := ⟨(max 0 ((ex x : Int) - 1075)).toNat, by omega⟩
    obtain ⟨b, hb⟩ : ∃ b : Nat, max 0 (-((ex x : Int) - 1075)) = (b : Int) := ⟨(max 0 (-((ex x : Int) - 1075))).toNat, by omega⟩
    obtain ⟨X, Y, h1, h2⟩ := exact_of hr rfl ha hb
    refine ⟨X, Y, h1, fun w => ?_⟩
    rw [← h2]
    exact exact_num r0 hr rfl rfl ha hb w
set_option maxHeartbeats 4000000 in
set_option maxRecDepth 100000 in
theorem exact_nan {x : Nat} (h : NaN x) (w : World) : Calls Tryd.prog 56 #[.float .f64 x] w fun e w' => RetA3 (0, 0, 1) w e w' := by
  have KN : Hid (∀ W, Calls Tryd.prog 102 #[.float .f64 x] W fun e w' => e = .returned (.bool true) ∧ W = w') := fun W => isnan_call (by rw [f64_fmt, nan_order h]; rfl) W
  have S := (Fs.start w).box (.slice none 0 0) (.slice none 0 0)
  clear h
  go_enter Tryd.func56, Tryd.ntmps56
  go_wp2_with fail
  generalize w.alloc (.cells #[.slice none 0 0, .slice none 0 0] 50) = w0 at *
  refine (KN.out _).mono ?_
  rintro e w' ⟨rfl, rfl⟩
  obtain ⟨⟨c0, c1, m0, m1, sz⟩, _⟩ := S.cel
  go_wp2_with fail
  go_light
  exact bodyPost_ret (v := .tuple #[.agg #[.slice none 0 0, .slice none 0 0], .int .i64 1]) (by simp [results, Tryd.results56, go_sem, c0, c1]) rfl ⟨_, _, _, _, _, _, rfl, lim_z _, lim_z _, (S.bl.setCell (Nat.le_refl _) _).setCell (Nat.le_refl _) _⟩
set_option maxHeartbeats 4000000 in
set_option maxRecDepth 100000 in
theorem exact_inf {x : Nat} (s : Bool) (hx : x = (if s then 9223372036854775808 else 0) + 9218868437227405312) (w : World) : Calls Tryd.prog 56 #[.float .f64 x] w fun e w' => RetA3 (0, 0, 1) w e w' := by
  have KN : Hid (∀ W, Calls Tryd.prog 102 #[.float .f64 x] W fun e w' => e = .returned (.bool false) ∧ W = w') := fun W => isnan_call (by rw [f64_fmt, order_self_inf (read_inf s hx)]; rfl) W
  have KI : Hid (∀ W, Calls Tryd.prog 103 #[.float .f64 x, .int .i64 0] W fun e w' => e = .returned (.bool true) ∧ W = w') := fun W => isinf_call hx (Nat.le_refl _) W
  have S := (Fs.start w).box (.slice none 0 0) (.slice none 0 0)
  clear hx
  go_enter Tryd.func56, Tryd.ntmps56
  go_wp2_with fail
  generalize w.alloc (.cells #[.slice none 0 0, .slice none 0 0] 50) = w0 at *
  refine (KN.out _).mono ?_
  rintro e w' ⟨rfl, rfl⟩
  go_wp2_with fail
  refine (KI.out _).mono ?_
  rintro e w' ⟨rfl, rfl⟩
  obtain ⟨⟨c0, c1, m0, m1, sz⟩, _⟩ := S.cel
  go_wp2_with fail
  go_light
  exact bodyPost_ret (v := .tuple #[.agg #[.slice none 0 0, .slice none 0 0], .int .i64 1]) (by simp [results, Tryd.results56, go_sem, c0, c1]) rfl ⟨_, _, _, _, _, _, rfl, lim_z _, lim_z _, (S.bl.setCell (Nat.le_refl _) _).setCell (Nat.le_refl _) _⟩
set_option maxHeartbeats 4000000 in
set_option maxRecDepth 100000 in
theorem exact_below {x r : Nat} (hx : x = (if true then 9223372036854775808 else 0) + r) (hr : r < 9218868437227405312) (r0 : r ≠ 0) (w : World) : Calls Tryd.prog 56 #[.float .f64 x] w fun e w' => RetA3 (0, 0, 1) w e w' := by
  have KN : Hid (∀ W, Calls Tryd.prog 102 #[.float .f64 x] W fun e w' => e = .returned (.bool false) ∧ W = w') := fun W => isnan_call (by rw [f64_fmt, order_self_num (s := true) hx hr]; rfl) W
  have KI : Hid (∀ W, Calls Tryd.prog 103 #[.float .f64 x, .int .i64 0] W fun e w' => e = .returned (.bool false) ∧ W = w') := fun W => by
    have := isinf_call (s := true) hx (by omega) W
    rwa [decide_eq_false (by omega)] at this
  have i1 : (FloatKind.f64.format.order x 0 == some .lt) = true := by rw [f64_fmt, order_zero_num (s := true) hx hr]; simp [r0]
  have S := (Fs.start w).box (.slice none 0 0) (.slice none 0 0)
  clear hx hr r0
  go_enter Tryd.func56, Tryd.ntmps56
  go_wp2_with fail
  generalize w.alloc (.cells #[.slice none 0 0, .slice none 0 0] 50) = w0 at *
  refine (KN.out _).mono ?_
  rintro e w' ⟨rfl, rfl⟩
  go_wp2_with fail
  refine (KI.out _).mono ?_
  rintro e w' ⟨rfl, rfl⟩
  obtain ⟨⟨c0, c1, m0, m1, sz⟩, _⟩ := S.cel
  go_wp2_with fail
  go_light
  exact bodyPost_ret (v := .tuple #[.agg #[.slice none 0 0, .slice none 0 0], .int .i64 1]) (by simp [results, Tryd.results56, go_sem, c0, c1]) rfl ⟨_, _, _, _, _, _, rfl, lim_z _, lim_z _, (S.bl.setCell (Nat.le_refl _) _).setCell (Nat.le_refl _) _⟩
theorem exact_no {x r : Nat} (s : Bool) (hx : x = (if s then 9223372036854775808 else 0) + r) (hr : r < 9223372036854775808) (h : ¬ (r < 9218868437227405312 ∧ (s = false ∨ r = 0))) (w : World) : Calls Tryd.prog 56 #[.float .f64 x] w fun e w' => RetA3 (0, 0, 1) w e w' := by
  rcases Nat.lt_trichotomy r 9218868437227405312 with k | k | k
  · cases s
    · exact absurd ⟨k, Or.inl rfl⟩ h
    · exact exact_below hx k (fun z => h ⟨k, Or.inr z⟩) w
  · exact exact_inf s (by rw [hx, k]) w
  · obtain ⟨t, z⟩ := read_nan s hx k hr
    exact exact_nan ⟨s, t, z⟩ w
end Go.Proofs.YtdnikdocfbbkkaaDoor
namespace Go.Proofs.YtdnikdocfbbkkaaDoor
open Go.RowKit
set_option linter.unusedVariables false
set_option linter.unusedSimpArgs false

section
variable {A A' : Option Addr} {n c n' c' p q b X Y : Nat} {w : World}
set_option maxHeartbeats 4000000 in
set_option maxRecDepth 100000 in
theorem error_any (ha : Lim w A n c (limbs p)) (hb : Lim w A' n' c' (limbs q)) (f : Fq p q) (fb : Fl p q b) (lb : b < 9218868437227405312) (o : Of1 b X Y) : Calls Tryd.prog 59 #[.agg #[.slice A n c, .slice A' n' c']] w fun e w' => RetA3 (errR p q X Y) w e w' := by
  have S := ((((Fs.start w).put ha).put hb).box (.slice A n c) (.slice A' n' c')).box (.slice none 0 0) (.slice none 0 0)
  rw [World.size_alloc] at S
  obtain ⟨X', Y', o', KX⟩ := exact_yes (x := b) false (by simp) lb (Or.inl rfl)
  obtain ⟨rfl, rfl⟩ : X = X' ∧ Y = Y' := by
    have e := o.eq
    rw [o'.eq] at e
    injection e with a b
    injection b with b c
    exact ⟨a.symm, b.symm⟩
  have KX := Lib.hid KX
  have FF := Lib.hid f; have FB := Lib.hid fb
  have FX := Lib.hid o.fq
  clear ha hb f fb lb o o'
  obtain ⟨N, hN⟩ : ∃ N, cmpN p q X Y = N := ⟨_, rfl⟩
  obtain ⟨E, hE⟩ : ∃ E, cmpE p q X Y = E := ⟨_, rfl⟩
  have RR : errR p q X Y = (if E = 0 then (if N = 0 then (0, 1, 0) else if N < 0 then subR X Y p q else subR p q X Y) else (0, 0, E)) := by unfold errR; rw [hN, hE]
  have KC : Hid (∀ (W : World) (D D' : Option Addr) (m k m' k' : Nat), Lim W A n c (limbs p) → Lim W A' n' c' (limbs q) → Lim W D m k (limbs X) → Lim W D' m' k' (limbs Y) → Calls Tryd.prog 43 #[.agg #[.slice A n c, .slice A' n' c'], .agg #[.slice D m k, .slice D' m' k']] W fun e w' => e = .returned (.tuple #[.int .i64 N, .int .i64 E]) ∧ Below W.heap.size W w') := fun W D D' m k m' k' h1 h2 h3 h4 => hN ▸ hE ▸ ratCmp_any h1 h2 h3 h4 FF.out FX.out
  clear hN hE
  generalize errR p q X Y = R at *
  go_enter Tryd.func59, Tryd.ntmps59
  go_wp2_with fail
  generalize (w.alloc (.cells #[.slice A n c, .slice A' n' c'] 50)).alloc (.cells #[.slice none 0 0, .slice none 0 0] 50) = w0 at *
  obtain ⟨b0, hb0⟩ : ∃ b0, b0 = w.heap.size := ⟨_, rfl⟩
  have hbW : w.heap.size ≤ b0 := by omega
  rw [← hb0] at S ⊢
  clear hb0
  refine (float_fq S.lie.2.1 S.lie.1 FF.out).mono ?_
  rintro e w1 ⟨b', fb', rfl, B1⟩
  obtain rfl := fb'.same FB.out
  have S := S.next B1
  clear B1 fb' FB
  go_wp2_with fail
  refine (KX.out _).mono ?_
  rintro e w2 ⟨A1, n1, c1, A2, n2, c2, rfl, M1, M2, B1⟩
  have S := ((S.next B1).put M1).put M2
  clear M1 M2 B1 KX
  have S := S.box (.slice A1 n1 c1) (.slice A2 n2 c2)
  obtain ⟨⟨h0, h1, -⟩, ⟨r0, r1, -⟩, ⟨a0, a1, -⟩, -⟩ := S.cel
  generalize hv : w2.alloc (.cells #[.slice A1 n1 c1, .slice A2 n2 c2] 50) = v2 at *
  go_wp2_with fail
  refine (KC.out _ _ _ _ _ _ _ S.lie.2.2.2.1 S.lie.2.2.1 S.lie.2.1 S.lie.1).mono ?_
  rintro e w3 ⟨rfl, B1⟩
  have S := S.next B1
  clear B1 KC h0 h1 r0 r1 a0 a1 hv
  obtain ⟨⟨h0, h1, -⟩, ⟨r0, r1, r2, r3, -⟩, ⟨a0, a1, -⟩, -⟩ := S.cel
  by_cases e0 : E = 0
  · rw [if_pos e0] at RR
    have g0 : (E != 0) = false := by simp [e0]
    clear e0
    by_cases n0 : N < 0
    · rw [if_neg (by omega), if_pos n0] at RR
      subst RR
      go_wp2_with fail
      refine (ratSub_any S.lie.2.1 S.lie.1 S.lie.2.2.2.1 S.lie.2.2.1 FX.out FF.out).mono ?_
      clear h0 h1 r0 r1 r2 r3 a0 a1
      rintro e w4 ⟨A3, n3, c3, A4, n4, c4, rfl, M1, M2, B1⟩
      have S := ((S.next B1).put M1).put M2
      clear M1 M2 B1
      obtain ⟨-, ⟨r0, r1, r2, r3, -⟩, -, -⟩ := S.cel
      go_wp2_with fail
      go_light
      exact bodyPost_ret (v := .tuple #[.agg #[.slice A3 n3 c3, .slice A4 n4 c4], .int .i64 (subR X Y p q).2.2]) (by simp [results, Tryd.results59, go_sem, r0, r1]) rfl ⟨_, _, _, _, _, _, rfl, S.lie.2.1.put2 r0 r1 _ _, S.lie.1.put2 r0 r1 _ _, (S.bl.setCell (by simp only []; omega) _).setCell (by simp only []; omega) _⟩
    · by_cases n1 : 0 < N
      · rw [if_neg (by omega), if_neg n0] at RR
        subst RR
        go_wp2_with fail
        refine (ratSub_any S.lie.2.2.2.1 S.lie.2.2.1 S.lie.2.1 S.lie.1 FF.out FX.out).mono ?_
        clear h0 h1 r0 r1 r2 r3 a0 a1
        rintro e w4 ⟨A3, n3, c3, A4, n4, c4, rfl, M1, M2, B1⟩
        have S := ((S.next B1).put M1).put M2
        clear M1 M2 B1
        obtain ⟨-, ⟨r0, r1, r2, r3, -⟩, -, -⟩ := S.cel
        go_wp2_with fail
        go_light
        exact bodyPost_ret (v := .tuple #[.agg #[.slice A3 n3 c3, .slice A4 n4 c4], .int .i64 (subR p q X Y).2.2]) (by simp [results, Tryd.results59, go_sem, r0, r1]) rfl ⟨_, _, _, _, _, _, rfl, S.lie.2.1.put2 r0 r1 _ _, S.lie.1.put2 r0 r1 _ _, (S.bl.setCell (by simp only []; omega) _).setCell (by simp only []; omega) _⟩
      · rw [if_pos (by omega)] at RR
        subst RR
        have KW : Hid (∀ W, Calls Tryd.prog 50 #[.int .u64 0] W fun e w' => RetR 0 1 W e w') := fun W => whole_r 0 (by decide) W
        go_wp2_with fail
        refine (KW.out _).mono ?_
        clear h0 h1 r0 r1 r2 r3 a0 a1
        rintro e w4 ⟨A3, n3, c3, A4, n4, c4, rfl, M1, M2, B1⟩
        have S := ((S.next B1).put M1).put M2
        clear M1 M2 B1
        obtain ⟨-, ⟨r0, r1, r2, r3, -⟩, -, -⟩ := S.cel
        go_wp2_with fail
        go_light
        exact bodyPost_ret (v := .tuple #[.agg #[.slice A3 n3 c3, .slice A4 n4 c4], .int .i64 0]) (by simp [results, Tryd.results59, go_sem, r0, r1]) rfl ⟨_, _, _, _, _, _, rfl, S.lie.2.1.put2 r0 r1 _ _, S.lie.1.put2 r0 r1 _ _, (S.bl.setCell (by simp only []; omega) _).setCell (by simp only []; omega) _⟩
  · rw [if_neg e0] at RR
    have g0 : (E != 0) = true := by simp [e0]
    subst RR
    clear e0
    go_wp2_with fail
    go_light
    exact bodyPost_ret (v := .tuple #[.agg #[.slice none 0 0, .slice none 0 0], .int .i64 E]) (by simp [results, Tryd.results59, go_sem, r0, r1]) rfl ⟨_, _, _, _, _, _, rfl, lim_z _, lim_z _, (S.bl.setCell (by simp only []; omega) _).setCell (by simp only []; omega) _⟩
end
/-- The program's three calls are what is asked of them. -/
theorem app : App where
  fl h1 h2 f := float_fq h1 h2 f
  fn h1 h2 f := float_no h1 h2 f
  ey s hx hr hs := exact_yes s hx hr hs
  en s hx hr h w := exact_no s hx hr h w
  er h1 h2 f fb lb o := error_any h1 h2 f fb lb o
end Go.Proofs.YtdnikdocfbbkkaaDoor
namespace Go.Proofs.YtdnikdocfbbkkaaDoor
open Go.RowKit Go.ChangeShapes Go.WideShapes Go.ChangeAt Go.Joins
set_option linter.unusedSimpArgs false
set_option linter.unusedVariables false

theorem own : ownKnob Tryd.prog.godebug = none := by kernel_rfl
theorem laidOut : laidOutB Tryd.prog = true := by kernel_rfl
theorem cells_u32 : Tryd.prog.cellsOf 37 = 1 := by kernel_rfl
theorem readable : Tryd.prog.readableRec 23 = true := by kernel_rfl
theorem typed : 23 < Tryd.prog.types.size := of_decide_eq_true (by kernel_rfl)
set_option maxRecDepth 100000 in
/-- An argument that is limbs, opened. -/
theorem open_nat {H : Type} {enc : TypeId × Value → H} {W : World} {base : Nat} {v : Value} {d : DataW H} {p : List MemPlace} (hv : Value.okWide Tryd.prog W .any base 23 v)
    (h : DataW.Trod enc Tryd.prog W 0 (fun _ => true) true 23 v d p) : ∃ A n c xs, v = .slice A n c ∧ Lim W A n c xs := by
  obtain ⟨A, n, c, rfl⟩ := okWide_slice Tryd.underlying23 hv
  obtain ⟨fuel, hf⟩ := h
  rcases open_ints Tryd.underlying23 Tryd.underlying37 cells_u32 hf with ⟨hcs, hx⟩ | ⟨a, len, cap, zs, hcs, _, hle, hmax, hall, hx, hcell, hwf⟩
  · simp [Value.cells] at hcs
    obtain ⟨rfl, rfl, rfl⟩ := hcs
    exact ⟨none, 0, 0, [], rfl, Lim.none_ _ _ _ (Nat.zero_le _)⟩
  · simp [Value.cells] at hcs
    obtain ⟨rfl, rfl, rfl⟩ := hcs
    simp only [if_true] at hall
    unfold maxLen at hmax
    refine ⟨_, _, _, (zs.take n).map Int.toNat, rfl, by simp; omega, hle, hmax, fun j hj => ⟨_, rfl, ?_⟩, ?_⟩
    · have hj' : j < n ∧ j < zs.length := by simp at hj; omega
      rw [hcell j hj'.2]
      have hb := bounds_u32 (hwf _ (List.getElem_mem hj'.2))
      have e : zs.getD j 0 = zs[j] := by simp [List.getD, List.getElem?_eq_getElem hj'.2]
      rw [e]
      simp only [List.getElem_map, List.getElem_take]
      exact congrArg (fun z => some (Value.int .u32 z)) (by omega)
    · intro x hx
      rw [List.mem_map] at hx
      obtain ⟨z, hz, rfl⟩ := hx
      have hb := bounds_u32 (hwf z (List.mem_of_mem_take hz))
      omega

section
variable {H : Type} {enc : TypeId × Value → H} {P : Program}
/-- The row's last step: the arguments read as they did. -/
theorem post_args {f : Func} {s : ChangeSpec} {apart : Bool} {W W' : World} {args : Array Value} {v : Value} {ds gs : List (DataW H)} {before : List MemPlace}
    (hW : DataW.Whole enc P f.params.toList s.vars apart W args.toList ds gs before)
    (hres : ∀ (b : Nat) (sp : Nat → Bool) (hd : Bool), DataW.TrodAll enc P W' b sp hd f.resultTypes.toList (v.resultList f.resultTypes.size) (s.fn H (ds ++ gs)).results [])
    (hargs : DataW.TrodAll enc P W' 0 (fun b => decide (b < W.heap.size)) true f.params.toList args.toList (s.fn H (ds ++ gs)).args before)
    (hvars : ∀ sp : Nat → Bool, DataW.TrodVars enc P W' sp s.vars (s.fn H (ds ++ gs)).vars [])
    (hb : Below W.heap.size W W') : s.post enc P f apart true false false W args v W' :=
  ⟨ds, gs, before, [], before, [], hW, hres _ _ _, hargs, hvars _, hb.frame _, fun h => by cases h⟩
end
end Go.Proofs.YtdnikdocfbbkkaaDoor
namespace Go.Proofs.YtdnikdocfbbkkaaDoor
open Go.RowKit Go.ChangeShapes Go.WideShapes Go.ChangeAt Go.Joins
set_option linter.unusedSimpArgs false
set_option linter.unusedVariables false

theorem cells_rat : Tryd.prog.cellsOf 50 = 2 := by kernel_rfl
theorem readable_rat : Tryd.prog.readableRec 50 = true := by kernel_rfl
theorem typed_rat : 50 < Tryd.prog.types.size := of_decide_eq_true (by kernel_rfl)
theorem readable_word : Tryd.prog.readableRec 24 = true := by kernel_rfl
theorem typed_word : 24 < Tryd.prog.types.size := of_decide_eq_true (by kernel_rfl)
set_option maxRecDepth 100000 in
theorem open_natf {H : Type} {enc : TypeId × Value → H} {W : World} {v : Value} {fuel : Nat} {y : DataW H × List MemPlace}
    (hf : DataW.trod enc Tryd.prog W 0 (fun _ => true) true fuel 23 [v] = some y) : ∃ A n c xs, v = .slice A n c ∧ Lim W A n c xs := by
  rcases open_ints Tryd.underlying23 Tryd.underlying37 cells_u32 hf with ⟨hcs, hx⟩ | ⟨a, len, cap, zs, hcs, _, hle, hmax, hall, hx, hcell, hwf⟩
  · simp at hcs
    subst hcs
    exact ⟨none, 0, 0, [], rfl, Lim.none_ _ _ _ (Nat.zero_le _)⟩
  · simp at hcs
    subst hcs
    simp only [if_true] at hall
    unfold maxLen at hmax
    refine ⟨_, _, _, (zs.take len).map Int.toNat, rfl, by simp; omega, hle, hmax, fun j hj => ⟨_, rfl, ?_⟩, ?_⟩
    · have hj' : j < len ∧ j < zs.length := by simp at hj; omega
      rw [hcell j hj'.2]
      have hb := bounds_u32 (hwf _ (List.getElem_mem hj'.2))
      have e : zs.getD j 0 = zs[j] := by simp [List.getD, List.getElem?_eq_getElem hj'.2]
      rw [e]
      simp only [List.getElem_map, List.getElem_take]
      exact congrArg (fun z => some (Value.int .u32 z)) (by omega)
    · intro x hx
      rw [List.mem_map] at hx
      obtain ⟨z, hz, rfl⟩ := hx
      have hb := bounds_u32 (hwf z (List.mem_of_mem_take hz))
      omega
set_option maxRecDepth 100000 in
/-- An argument that is a pair of limbs, opened. -/
theorem open_rat {H : Type} {enc : TypeId × Value → H} {W : World} {base : Nat} {v : Value} {d : DataW H} {p : List MemPlace} (hv : Value.okWide Tryd.prog W .any base 50 v)
    (h : DataW.Trod enc Tryd.prog W 0 (fun _ => true) true 50 v d p) : ∃ A n c xs A' n' c' ys, v = .agg #[.slice A n c, .slice A' n' c'] ∧ Lim W A n c xs ∧ Lim W A' n' c' ys := by
  obtain ⟨c0, c1, y0, y1, m, rfl, rfl, rfl, hy0, hy1⟩ := open_agg2 Tryd.underlying50 (by kernel_rfl) cells_rat hv h
  obtain ⟨A, n, c, xs, rfl, l⟩ := open_natf hy0
  obtain ⟨A', n', c', ys, rfl, l'⟩ := open_natf hy1
  exact ⟨A, n, c, xs, A', n', c', ys, rfl, l, l'⟩
set_option maxRecDepth 100000 in
/-- An argument that is a word, opened. -/
theorem open_word {H : Type} {enc : TypeId × Value → H} {W : World} {base : Nat} {v : Value} {d : DataW H} {p : List MemPlace} (hv : Value.okWide Tryd.prog W .any base 24 v)
    (h : DataW.Trod enc Tryd.prog W 0 (fun _ => true) true 24 v d p) : ∃ x : Nat, v = .int .u64 (x : Int) ∧ x < 18446744073709551616 := by
  obtain ⟨x, rfl, rfl, rfl, wx⟩ := open_int Tryd.underlying24 hv h
  have hb := bounds_u64 wx
  exact ⟨x.toNat, congrArg (Value.int .u64) (by omega), by omega⟩
theorem readable_f64 : Tryd.prog.readableRec 67 = true := by kernel_rfl
theorem typed_f64 : 67 < Tryd.prog.types.size := of_decide_eq_true (by kernel_rfl)
set_option maxRecDepth 100000 in
/-- An argument that is a float64, opened. -/
theorem open_f64 {H : Type} {enc : TypeId × Value → H} {W : World} {base : Nat} {v : Value} {d : DataW H} {p : List MemPlace} (hv : Value.okWide Tryd.prog W .any base 67 v)
    (h : DataW.Trod enc Tryd.prog W 0 (fun _ => true) true 67 v d p) : ∃ x : Nat, v = .float .f64 x ∧ x < 18446744073709551616 := by
  obtain ⟨x, rfl, -, -, wx⟩ := open_float Tryd.underlying67 hv h
  refine ⟨x, rfl, ?_⟩
  simpa [Lit.wf] using wx
end Go.Proofs.YtdnikdocfbbkkaaDoor
