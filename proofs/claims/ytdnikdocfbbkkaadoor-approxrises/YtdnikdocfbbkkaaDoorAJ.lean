/- The walk of the law ApproxRises. -/
import Derived.Test.YtdnikdocfbbkkaaDoorAG
namespace Go.Proofs.YtdnikdocfbbkkaaDoor.approxRises
open Go.RowKit
open Go.Proofs.YtdnikdocfbbkkaaDoor
set_option linter.unusedVariables false
set_option linter.unusedSimpArgs false
theorem ord_le {a b : Nat} (ha : a ≤ 9218868437227405312) (hb : b ≤ 9218868437227405312) (h : a ≤ b) : (FloatKind.f64.format.order a b == some .lt || FloatKind.f64.format.order a b == some .eq) = true := by
  rw [show FloatKind.f64.format = Ieee.double from rfl, order_rung ha hb]
  rcases Nat.lt_or_eq_of_le h with k | k
  · rw [Nat.compare_eq_lt.2 k]; rfl
  · rw [Nat.compare_eq_eq.2 k]; rfl
theorem ord_ge {a b : Nat} (ha : a ≤ 9218868437227405312) (hb : b ≤ 9218868437227405312) (h : b ≤ a) : (FloatKind.f64.format.order a b == some .gt || FloatKind.f64.format.order a b == some .eq) = true := by
  rw [show FloatKind.f64.format = Ieee.double from rfl, order_rung ha hb]
  rcases Nat.lt_or_eq_of_le h with k | k
  · rw [Nat.compare_eq_gt.2 k]; rfl
  · rw [Nat.compare_eq_eq.2 k.symm]; rfl
/-- How the numbers stand to each other, and so the float64s. -/
theorem stand {p q p' q' : Nat} (f : Fq p q) (g : Fq p' q') (lp : ln p ≤ 30) (lq : ln q ≤ 30) (lp' : ln p' ≤ 30) (lq' : ln q' ≤ 30) : cmpE p q p' q' = 0 ∧ ∃ N : Int, cmpN p q p' q' = N ∧ ∀ b b' : Nat, Fl p q b → Fl p' q' b' → (N = -1 ∧ b ≤ b') ∨ (N = 0 ∧ b = b') ∨ (N = 1 ∧ b' ≤ b) := by
  have l1 := Nat.le_trans (ln_mul lp lq') (by decide : 30 + 30 ≤ 64)
  have l2 := Nat.le_trans (ln_mul lp' lq) (by decide : 30 + 30 ≤ 64)
  refine ⟨cmpE_yes l1 l2, _, cmpN_yes l1 l2, fun b b' h h' => ?_⟩
  rcases Nat.lt_trichotomy (p * q') (p' * q) with k | k | k
  · exact Or.inl ⟨sgn_lt k, h.mono f.q0 g.q0 (Nat.le_of_lt k) h'⟩
  · exact Or.inr (Or.inl ⟨by rw [k]; exact sgn_eq _, h.equal f.q0 g.q0 k h'⟩)
  · exact Or.inr (Or.inr ⟨sgn_gt k, h'.mono g.q0 f.q0 (Nat.le_of_lt k) h⟩)
set_option maxHeartbeats 4000000 in
set_option maxRecDepth 100000 in
theorem long0 (K : App) {A A' D D' : Option Addr} {n c n' c' m k m' k' : Nat} {w : World} (z0 : ¬ n ≤ 30) : Calls Tryd.prog 10 #[.agg #[.slice A n c, .slice A' n' c'], .agg #[.slice D m k, .slice D' m' k']] w fun e w' => e = .returned (.bool true) ∧ Below w.heap.size w w' := by
  have S := (Fs.start w) |>.box (.slice A n c) (.slice A' n' c') |>.box (.slice D m k) (.slice D' m' k')
  simp only [World.size_alloc] at S
  have KA := Lib.hid K
  have d0 : decide ((n : Int) > 30) = true := by simp; omega
  clear K z0
  go_enter Tryd.func10, Tryd.ntmps10
  go_upto_region 1 with fail
  generalize (w.alloc (.cells #[.slice A n c, .slice A' n' c'] 50)).alloc (.cells #[.slice D m k, .slice D' m' k'] 50) = w0 at *
  obtain ⟨⟨y0, y1, -⟩, ⟨x0, x1, -⟩, -⟩ := S.cel
  go_wp2_with fail
  refine (awake4 KA.out _).mono ?_
  rintro e y9 ⟨rfl, B1⟩
  have S := S.next B1
  go_wp2_with fail
  go_ret
  exact ⟨rfl, S.bl⟩
set_option maxHeartbeats 4000000 in
set_option maxRecDepth 100000 in
theorem long1 (K : App) {A A' D D' : Option Addr} {n c n' c' m k m' k' : Nat} {w : World} (z0 : n ≤ 30) (z1 : ¬ n' ≤ 30) : Calls Tryd.prog 10 #[.agg #[.slice A n c, .slice A' n' c'], .agg #[.slice D m k, .slice D' m' k']] w fun e w' => e = .returned (.bool true) ∧ Below w.heap.size w w' := by
  have S := (Fs.start w) |>.box (.slice A n c) (.slice A' n' c') |>.box (.slice D m k) (.slice D' m' k')
  simp only [World.size_alloc] at S
  have KA := Lib.hid K
  have d0 : decide ((n : Int) > 30) = false := by simp; omega
  have d1 : decide ((n' : Int) > 30) = true := by simp; omega
  clear K z0 z1
  go_enter Tryd.func10, Tryd.ntmps10
  go_upto_region 1 with fail
  generalize (w.alloc (.cells #[.slice A n c, .slice A' n' c'] 50)).alloc (.cells #[.slice D m k, .slice D' m' k'] 50) = w0 at *
  obtain ⟨⟨y0, y1, -⟩, ⟨x0, x1, -⟩, -⟩ := S.cel
  go_wp2_with fail
  refine (awake4 KA.out _).mono ?_
  rintro e y9 ⟨rfl, B1⟩
  have S := S.next B1
  go_wp2_with fail
  go_ret
  exact ⟨rfl, S.bl⟩
set_option maxHeartbeats 4000000 in
set_option maxRecDepth 100000 in
theorem long2 (K : App) {A A' D D' : Option Addr} {n c n' c' m k m' k' : Nat} {w : World} (z0 : n ≤ 30) (z1 : n' ≤ 30) (z2 : ¬ m ≤ 30) : Calls Tryd.prog 10 #[.agg #[.slice A n c, .slice A' n' c'], .agg #[.slice D m k, .slice D' m' k']] w fun e w' => e = .returned (.bool true) ∧ Below w.heap.size w w' := by
  have S := (Fs.start w) |>.box (.slice A n c) (.slice A' n' c') |>.box (.slice D m k) (.slice D' m' k')
  simp only [World.size_alloc] at S
  have KA := Lib.hid K
  have d0 : decide ((n : Int) > 30) = false := by simp; omega
  have d1 : decide ((n' : Int) > 30) = false := by simp; omega
  have d2 : decide ((m : Int) > 30) = true := by simp; omega
  clear K z0 z1 z2
  go_enter Tryd.func10, Tryd.ntmps10
  go_upto_region 1 with fail
  generalize (w.alloc (.cells #[.slice A n c, .slice A' n' c'] 50)).alloc (.cells #[.slice D m k, .slice D' m' k'] 50) = w0 at *
  obtain ⟨⟨y0, y1, -⟩, ⟨x0, x1, -⟩, -⟩ := S.cel
  go_wp2_with fail
  refine (awake4 KA.out _).mono ?_
  rintro e y9 ⟨rfl, B1⟩
  have S := S.next B1
  go_wp2_with fail
  go_ret
  exact ⟨rfl, S.bl⟩
set_option maxHeartbeats 4000000 in
set_option maxRecDepth 100000 in
theorem long3 (K : App) {A A' D D' : Option Addr} {n c n' c' m k m' k' : Nat} {w : World} (z0 : n ≤ 30) (z1 : n' ≤ 30) (z2 : m ≤ 30) (z3 : ¬ m' ≤ 30) : Calls Tryd.prog 10 #[.agg #[.slice A n c, .slice A' n' c'], .agg #[.slice D m k, .slice D' m' k']] w fun e w' => e = .returned (.bool true) ∧ Below w.heap.size w w' := by
  have S := (Fs.start w) |>.box (.slice A n c) (.slice A' n' c') |>.box (.slice D m k) (.slice D' m' k')
  simp only [World.size_alloc] at S
  have KA := Lib.hid K
  have d0 : decide ((n : Int) > 30) = false := by simp; omega
  have d1 : decide ((n' : Int) > 30) = false := by simp; omega
  have d2 : decide ((m : Int) > 30) = false := by simp; omega
  have d3 : decide ((m' : Int) > 30) = true := by simp; omega
  clear K z0 z1 z2 z3
  go_enter Tryd.func10, Tryd.ntmps10
  go_upto_region 1 with fail
  generalize (w.alloc (.cells #[.slice A n c, .slice A' n' c'] 50)).alloc (.cells #[.slice D m k, .slice D' m' k'] 50) = w0 at *
  obtain ⟨⟨y0, y1, -⟩, ⟨x0, x1, -⟩, -⟩ := S.cel
  go_wp2_with fail
  refine (awake4 KA.out _).mono ?_
  rintro e y9 ⟨rfl, B1⟩
  have S := S.next B1
  go_wp2_with fail
  go_ret
  exact ⟨rfl, S.bl⟩
set_option maxHeartbeats 4000000 in
set_option maxRecDepth 100000 in
theorem none0 (K : App) {A A' D D' : Option Addr} {n c n' c' m k m' k' : Nat} {xs ys us vs : List Nat} {w : World} (h0 : Lim w A n c xs) (h0' : Lim w A' n' c' ys) (h1 : Lim w D m k us) (h1' : Lim w D' m' k' vs) (z0 : n ≤ 30) (z1 : n' ≤ 30) (z2 : m ≤ 30) (z3 : m' ≤ 30) (f : ¬ Fr xs ys) : Calls Tryd.prog 10 #[.agg #[.slice A n c, .slice A' n' c'], .agg #[.slice D m k, .slice D' m' k']] w fun e w' => e = .returned (.bool true) ∧ Below w.heap.size w w' := by
  have S := ((((Fs.start w).put h0).put h0').put h1).put h1' |>.box (.slice A n c) (.slice A' n' c') |>.box (.slice D m k) (.slice D' m' k')
  simp only [World.size_alloc] at S
  have KA := Lib.hid K
  have FA := Lib.hid (frB_no f)
  have d0 : decide ((n : Int) > 30) = false := by simp; omega
  have d1 : decide ((n' : Int) > 30) = false := by simp; omega
  have d2 : decide ((m : Int) > 30) = false := by simp; omega
  have d3 : decide ((m' : Int) > 30) = false := by simp; omega
  clear K h0 h0' h1 h1' z0 z1 z2 z3 f
  go_enter Tryd.func10, Tryd.ntmps10
  go_upto_region 1 with fail
  generalize (w.alloc (.cells #[.slice A n c, .slice A' n' c'] 50)).alloc (.cells #[.slice D m k, .slice D' m' k'] 50) = w0 at *
  obtain ⟨⟨y0, y1, -⟩, ⟨x0, x1, -⟩, -⟩ := S.cel
  go_wp2_with fail
  have KK := ratRight_any S.lie.2.2.2.1 S.lie.2.2.1
  rw [FA.out] at KK
  refine KK.mono ?_
  clear KK x0 x1 y0 y1
  rintro e r0 ⟨rfl, C1⟩
  have S := S.next C1
  clear C1
  obtain ⟨⟨y0, y1, -⟩, ⟨x0, x1, -⟩, -⟩ := S.cel
  go_wp2_with fail
  refine (awake4 KA.out _).mono ?_
  rintro e y9 ⟨rfl, B1⟩
  have S := S.next B1
  go_wp2_with fail
  go_ret
  exact ⟨rfl, S.bl⟩
set_option maxHeartbeats 4000000 in
set_option maxRecDepth 100000 in
theorem none1 (K : App) {A A' D D' : Option Addr} {n c n' c' m k m' k' : Nat} {xs ys us vs : List Nat} {w : World} (h0 : Lim w A n c xs) (h0' : Lim w A' n' c' ys) (h1 : Lim w D m k us) (h1' : Lim w D' m' k' vs) (z0 : n ≤ 30) (z1 : n' ≤ 30) (z2 : m ≤ 30) (z3 : m' ≤ 30) (f : Fr xs ys) (g : ¬ Fr us vs) : Calls Tryd.prog 10 #[.agg #[.slice A n c, .slice A' n' c'], .agg #[.slice D m k, .slice D' m' k']] w fun e w' => e = .returned (.bool true) ∧ Below w.heap.size w w' := by
  have S := ((((Fs.start w).put h0).put h0').put h1).put h1' |>.box (.slice A n c) (.slice A' n' c') |>.box (.slice D m k) (.slice D' m' k')
  simp only [World.size_alloc] at S
  have KA := Lib.hid K
  have FA := Lib.hid (frB_yes f); have FB := Lib.hid (frB_no g)
  have d0 : decide ((n : Int) > 30) = false := by simp; omega
  have d1 : decide ((n' : Int) > 30) = false := by simp; omega
  have d2 : decide ((m : Int) > 30) = false := by simp; omega
  have d3 : decide ((m' : Int) > 30) = false := by simp; omega
  clear K h0 h0' h1 h1' z0 z1 z2 z3 f g
  go_enter Tryd.func10, Tryd.ntmps10
  go_upto_region 1 with fail
  generalize (w.alloc (.cells #[.slice A n c, .slice A' n' c'] 50)).alloc (.cells #[.slice D m k, .slice D' m' k'] 50) = w0 at *
  obtain ⟨⟨y0, y1, -⟩, ⟨x0, x1, -⟩, -⟩ := S.cel
  go_wp2_with fail
  have KK := ratRight_any S.lie.2.2.2.1 S.lie.2.2.1
  rw [FA.out] at KK
  refine KK.mono ?_
  clear KK x0 x1 y0 y1
  rintro e r0 ⟨rfl, C1⟩
  have S := S.next C1
  clear C1
  obtain ⟨⟨y0, y1, -⟩, ⟨x0, x1, -⟩, -⟩ := S.cel
  go_wp2_with fail
  have KK := ratRight_any S.lie.2.1 S.lie.1
  rw [FB.out] at KK
  refine KK.mono ?_
  clear KK x0 x1 y0 y1
  rintro e r1 ⟨rfl, C1⟩
  have S := S.next C1
  clear C1
  obtain ⟨⟨y0, y1, -⟩, ⟨x0, x1, -⟩, -⟩ := S.cel
  go_wp2_with fail
  refine (awake4 KA.out _).mono ?_
  rintro e y9 ⟨rfl, B1⟩
  have S := S.next B1
  go_wp2_with fail
  go_ret
  exact ⟨rfl, S.bl⟩
set_option maxHeartbeats 4000000 in
set_option maxRecDepth 100000 in
theorem yes (K : App) {A A' D D' : Option Addr} {n c n' c' m k m' k' : Nat} {p q p' q' : Nat} {w : World} (h0 : Lim w A n c (limbs p)) (h0' : Lim w A' n' c' (limbs q)) (h1 : Lim w D m k (limbs p')) (h1' : Lim w D' m' k' (limbs q')) (z0 : n ≤ 30) (z1 : n' ≤ 30) (z2 : m ≤ 30) (z3 : m' ≤ 30) (f : Fq p q) (g : Fq p' q') : Calls Tryd.prog 10 #[.agg #[.slice A n c, .slice A' n' c'], .agg #[.slice D m k, .slice D' m' k']] w fun e w' => e = .returned (.bool true) ∧ Below w.heap.size w w' := by
  have S := ((((Fs.start w).put h0).put h0').put h1).put h1' |>.box (.slice A n c) (.slice A' n' c') |>.box (.slice D m k) (.slice D' m' k')
  simp only [World.size_alloc] at S
  have KA := Lib.hid K
  have FA := Lib.hid (frB_yes f.fr); have FB := Lib.hid (frB_yes g.fr)
  have FF := Lib.hid f; have FG := Lib.hid g
  obtain ⟨hE, N, hN, hst⟩ := stand f g (by have := h0.len; rw [limbs_length] at this; omega) (by have := h0'.len; rw [limbs_length] at this; omega) (by have := h1.len; rw [limbs_length] at this; omega) (by have := h1'.len; rw [limbs_length] at this; omega)
  have HE := Lib.hid hE; have HN := Lib.hid hN; have HS := Lib.hid hst
  have d0 : decide ((n : Int) > 30) = false := by simp; omega
  have d1 : decide ((n' : Int) > 30) = false := by simp; omega
  have d2 : decide ((m : Int) > 30) = false := by simp; omega
  have d3 : decide ((m' : Int) > 30) = false := by simp; omega
  clear K h0 h0' h1 h1' z0 z1 z2 z3 f g hE hN hst
  go_enter Tryd.func10, Tryd.ntmps10
  go_upto_region 1 with fail
  generalize (w.alloc (.cells #[.slice A n c, .slice A' n' c'] 50)).alloc (.cells #[.slice D m k, .slice D' m' k'] 50) = w0 at *
  obtain ⟨⟨y0, y1, -⟩, ⟨x0, x1, -⟩, -⟩ := S.cel
  go_wp2_with fail
  have KK := ratRight_any S.lie.2.2.2.1 S.lie.2.2.1
  rw [FA.out] at KK
  refine KK.mono ?_
  clear KK x0 x1 y0 y1
  rintro e r0 ⟨rfl, C1⟩
  have S := S.next C1
  clear C1
  obtain ⟨⟨y0, y1, -⟩, ⟨x0, x1, -⟩, -⟩ := S.cel
  go_wp2_with fail
  have KK := ratRight_any S.lie.2.1 S.lie.1
  rw [FB.out] at KK
  refine KK.mono ?_
  clear KK x0 x1 y0 y1
  rintro e r1 ⟨rfl, C1⟩
  have S := S.next C1
  clear C1
  obtain ⟨⟨y0, y1, -⟩, ⟨x0, x1, -⟩, -⟩ := S.cel
  go_wp2_with fail
  have KK := ratCmp_any S.lie.2.2.2.1 S.lie.2.2.1 S.lie.2.1 S.lie.1 FF.out FG.out
  rw [HE.out, HN.out] at KK
  refine KK.mono ?_
  clear KK x0 x1 y0 y1
  rintro e v1 ⟨rfl, B1⟩
  have S := S.next B1
  clear B1
  obtain ⟨⟨y0, y1, -⟩, ⟨x0, x1, -⟩, -⟩ := S.cel
  go_wp2_with fail
  refine (KA.out.fl S.lie.2.2.2.1 S.lie.2.2.1 FF.out).mono ?_
  clear x0 x1 y0 y1
  rintro e v2 ⟨b, fb, rfl, B1⟩
  have S := S.next B1
  clear B1
  obtain ⟨⟨y0, y1, -⟩, ⟨x0, x1, -⟩, -⟩ := S.cel
  go_wp2_with fail
  refine (KA.out.fl S.lie.2.1 S.lie.1 FG.out).mono ?_
  clear x0 x1 y0 y1
  rintro e v3 ⟨b', fb', rfl, B1⟩
  have S := S.next B1
  clear B1
  have i0 := ord_ge (a := b) (b := 0) fb.le (by omega) (by omega)
  have KS := Lib.hid (fun W => signbit_no (b := b) (by have := fb.le; omega) W)
  have st := HS.out b b' fb fb'
  have l1 := Lib.hid fb.le; have l2 := Lib.hid fb'.le
  clear fb fb' HS HE HN FF FG FA FB
  rcases st with ⟨rfl, le⟩ | ⟨rfl, rfl⟩ | ⟨rfl, le⟩
  · have i1 := ord_le l1.out l2.out le
    clear le
    go_wp2_with fail
    refine (KS.out _).mono ?_
    rintro e w' ⟨rfl, rfl⟩
    go_wp2_with fail
    refine (awake4 KA.out _).mono ?_
    rintro e y9 ⟨rfl, B1⟩
    have S := S.next B1
    go_wp2_with fail
    go_ret
    exact ⟨rfl, S.bl⟩
  · have i1 := ord_le l1.out l2.out (Nat.le_refl b)
    have i2 := ord_ge l1.out l2.out (Nat.le_refl b)
    go_wp2_with fail
    refine (KS.out _).mono ?_
    rintro e w' ⟨rfl, rfl⟩
    go_wp2_with fail
    refine (awake4 KA.out _).mono ?_
    rintro e y9 ⟨rfl, B1⟩
    have S := S.next B1
    go_wp2_with fail
    go_ret
    exact ⟨rfl, S.bl⟩
  · have i2 := ord_ge l1.out l2.out le
    clear le
    go_wp2_with fail
    refine (KS.out _).mono ?_
    rintro e w' ⟨rfl, rfl⟩
    go_wp2_with fail
    refine (awake4 KA.out _).mono ?_
    rintro e y9 ⟨rfl, B1⟩
    have S := S.next B1
    go_wp2_with fail
    go_ret
    exact ⟨rfl, S.bl⟩
theorem walk (K : App) {A A' D D' : Option Addr} {n c n' c' m k m' k' : Nat} {xs ys us vs : List Nat} {w : World} (h0 : Lim w A n c xs) (h0' : Lim w A' n' c' ys) (h1 : Lim w D m k us) (h1' : Lim w D' m' k' vs) : Calls Tryd.prog 10 #[.agg #[.slice A n c, .slice A' n' c'], .agg #[.slice D m k, .slice D' m' k']] w fun e w' => e = .returned (.bool true) ∧ Below w.heap.size w w' := by
  by_cases z0 : n ≤ 30
  · by_cases z1 : n' ≤ 30
    · by_cases z2 : m ≤ 30
      · by_cases z3 : m' ≤ 30
        · by_cases f : Fr xs ys
          · by_cases g : Fr us vs
            · obtain ⟨k1, e0, e1⟩ := f.num h0.lo h0'.lo
              obtain ⟨k2, e2, e3⟩ := g.num h1.lo h1'.lo
              exact yes K (e0 ▸ h0) (e1 ▸ h0') (e2 ▸ h1) (e3 ▸ h1') z0 z1 z2 z3 k1 k2
            · exact none1 K h0 h0' h1 h1' z0 z1 z2 z3 f g
          · exact none0 K h0 h0' h1 h1' z0 z1 z2 z3 f
        · exact long3 K z0 z1 z2 z3
      · exact long2 K z0 z1 z2
    · exact long1 K z0 z1
  · exact long0 K z0
end Go.Proofs.YtdnikdocfbbkkaaDoor.approxRises
