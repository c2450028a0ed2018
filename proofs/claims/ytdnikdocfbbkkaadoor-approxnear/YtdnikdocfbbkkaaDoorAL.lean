/- The walk of the law ApproxNear. -/
import Derived.Test.YtdnikdocfbbkkaaDoorJ19
import Derived.Test.YtdnikdocfbbkkaaDoorAK
namespace Go.Proofs.YtdnikdocfbbkkaaDoor
open Go.RowKit
theorem Fs.boxT {w W : World} {cs : List (Nat × Value × Value)} {l : List (Option Addr × Nat × Nat × List Nat)} (t : TypeId) (s : Fs w cs l W) (u v : Value) : Fs w ((W.heap.size, u, v) :: cs) l (W.alloc (.cells #[u, v] t)) := by
  have hb : Below W.heap.size W (W.alloc (.cells #[u, v] t)) := (Below.refl _ _).alloc (Nat.le_refl _) _
  exact ⟨s.lie.next hb, ⟨⟨by simp [go_sem], by simp [go_sem], by simp [go_sem], by simp [go_sem], by simp⟩, s.cel.next hb⟩, below_step s.bl hb⟩
end Go.Proofs.YtdnikdocfbbkkaaDoor
namespace Go.Proofs.YtdnikdocfbbkkaaDoor.approxNear
open Go.RowKit
open Go.Proofs.YtdnikdocfbbkkaaDoor
set_option linter.unusedVariables false
set_option linter.unusedSimpArgs false
set_option maxHeartbeats 4000000 in
set_option maxRecDepth 100000 in
theorem long1 (K : App) {A A' : Option Addr} {n c n' c' : Nat} {w : World} (z : ¬ n ≤ 8) : Calls Tryd.prog 11 #[.agg #[.slice A n c, .slice A' n' c']] w fun e w' => e = .returned (.bool true) ∧ Below w.heap.size w w' := by
  have S := (Fs.start w).box (.slice A n c) (.slice A' n' c')
  have KA := Lib.hid K
  have d1 : decide ((n : Int) > 8) = true := by simp; omega
  clear K z
  go_enter Tryd.func11, Tryd.ntmps11
  go_upto_region 1 with fail
  generalize w.alloc (.cells #[.slice A n c, .slice A' n' c'] 50) = w0 at *
  obtain ⟨⟨x0, x1, -⟩, -⟩ := S.cel
  go_wp2_with fail
  refine (awake4 KA.out _).mono ?_
  rintro e y9 ⟨rfl, B1⟩
  have S := S.next B1
  go_wp2_with fail
  go_ret
  exact ⟨rfl, S.bl⟩
set_option maxHeartbeats 4000000 in
set_option maxRecDepth 100000 in
theorem long2 (K : App) {A A' : Option Addr} {n c n' c' : Nat} {w : World} (z : n ≤ 8) (z' : ¬ n' ≤ 8) : Calls Tryd.prog 11 #[.agg #[.slice A n c, .slice A' n' c']] w fun e w' => e = .returned (.bool true) ∧ Below w.heap.size w w' := by
  have S := (Fs.start w).box (.slice A n c) (.slice A' n' c')
  have KA := Lib.hid K
  have d1 : decide ((n : Int) > 8) = false := by simp; omega
  have d2 : decide ((n' : Int) > 8) = true := by simp; omega
  clear K z z'
  go_enter Tryd.func11, Tryd.ntmps11
  go_upto_region 1 with fail
  generalize w.alloc (.cells #[.slice A n c, .slice A' n' c'] 50) = w0 at *
  obtain ⟨⟨x0, x1, -⟩, -⟩ := S.cel
  go_wp2_with fail
  refine (awake4 KA.out _).mono ?_
  rintro e y9 ⟨rfl, B1⟩
  have S := S.next B1
  go_wp2_with fail
  go_ret
  exact ⟨rfl, S.bl⟩
set_option maxHeartbeats 4000000 in
set_option maxRecDepth 100000 in
theorem none_ (K : App) {A A' : Option Addr} {n c n' c' : Nat} {xs ys : List Nat} {w : World} (h0 : Lim w A n c xs) (h1 : Lim w A' n' c' ys) (z : n ≤ 8) (z' : n' ≤ 8) (f : ¬ Fr xs ys) : Calls Tryd.prog 11 #[.agg #[.slice A n c, .slice A' n' c']] w fun e w' => e = .returned (.bool true) ∧ Below w.heap.size w w' := by
  have S := ((Fs.start w).put h0).put h1 |>.box (.slice A n c) (.slice A' n' c')
  have KA := Lib.hid K
  have FB := Lib.hid (frB_no f)
  have d1 : decide ((n : Int) > 8) = false := by simp; omega
  have d2 : decide ((n' : Int) > 8) = false := by simp; omega
  clear K h0 h1 f z z'
  go_enter Tryd.func11, Tryd.ntmps11
  go_upto_region 1 with fail
  generalize w.alloc (.cells #[.slice A n c, .slice A' n' c'] 50) = w0 at *
  obtain ⟨⟨x0, x1, -⟩, -⟩ := S.cel
  go_wp2_with fail
  have KK := ratRight_any S.lie.2.1 S.lie.1
  rw [FB.out] at KK
  refine KK.mono ?_
  clear KK x0 x1
  rintro e r1 ⟨rfl, C1⟩
  have S := S.next C1
  clear C1
  go_wp2_with fail
  refine (awake4 KA.out _).mono ?_
  rintro e y9 ⟨rfl, B1⟩
  have S := S.next B1
  go_wp2_with fail
  go_ret
  exact ⟨rfl, S.bl⟩
set_option maxHeartbeats 4000000 in
set_option maxRecDepth 100000 in
theorem yes (K : App) {A A' : Option Addr} {n c n' c' p q : Nat} {w : World} (h0 : Lim w A n c (limbs p)) (h1 : Lim w A' n' c' (limbs q)) (z : n ≤ 8) (z' : n' ≤ 8) (f : Fq p q) : Calls Tryd.prog 11 #[.agg #[.slice A n c, .slice A' n' c']] w fun e w' => e = .returned (.bool true) ∧ Below w.heap.size w w' := by
  have S := ((Fs.start w).put h0).put h1 |>.box (.slice A n c) (.slice A' n' c')
  have KA := Lib.hid K
  have FF := Lib.hid f; have FB := Lib.hid (frB_yes f.fr)
  have NA := Lib.hid (fun b (hb : Fl p q b) => near_all f (by have := h0.len; rw [limbs_length] at this; omega) (by have := h1.len; rw [limbs_length] at this; omega) hb)
  have d1 : decide ((n : Int) > 8) = false := by simp; omega
  have d2 : decide ((n' : Int) > 8) = false := by simp; omega
  clear K h0 h1 f z z'
  go_enter Tryd.func11, Tryd.ntmps11
  go_upto_region 1 with fail
  generalize w.alloc (.cells #[.slice A n c, .slice A' n' c'] 50) = w0 at *
  obtain ⟨⟨x0, x1, -⟩, -⟩ := S.cel
  go_wp2_with fail
  have KK := ratRight_any S.lie.2.1 S.lie.1
  rw [FB.out] at KK
  refine KK.mono ?_
  clear KK x0 x1
  rintro e r1 ⟨rfl, C1⟩
  have S := S.next C1
  clear C1
  obtain ⟨⟨x0, x1, -⟩, -⟩ := S.cel
  go_wp2_with fail
  refine (KA.out.fl S.lie.2.1 S.lie.1 FF.out).mono ?_
  clear x0 x1
  rintro e y1 ⟨b, fb, rfl, B1⟩
  have S := S.next B1
  obtain ⟨lb, X, Y, U1, U2, o, er, fd, N0, N1⟩ := NA.out b fb
  have KE : Hid (∀ {A A' : Option Addr} {n c n' c' : Nat} {w : World}, Lim w A n c (limbs p) → Lim w A' n' c' (limbs q) → Calls Tryd.prog 59 #[.agg #[.slice A n c, .slice A' n' c']] w fun e w' => RetA3 (U1, U2, 0) w e w') := fun h h' => er ▸ KA.out.er h h' FF.out fb (by omega) o
  have FD := Lib.hid fd
  have KD : Hid (∀ W, Calls Tryd.prog 61 #[.float .f64 b, .float .f64 0] W fun e w' => e = .returned (.float .f64 (b - 1)) ∧ W = w') := by
    intro W
    cases b with
    | zero => exact next_zero W
    | succ b => exact next_down (by omega) W
  have KU : Hid (∀ W, Calls Tryd.prog 61 #[.float .f64 b, .float .f64 9218868437227405312] W fun e w' => e = .returned (.float .f64 (b + 1)) ∧ W = w') := by
    intro W
    by_cases b0 : b = 0
    · subst b0; exact next_one W
    · exact next_up b0 (by omega) W
  have N0 := Lib.hid N0; have N1 := Lib.hid N1
  clear B1 NA lb o er fd fb
  generalize b - 1 = g at *
  generalize b + 1 = h at *
  obtain ⟨⟨x0, x1, -⟩, -⟩ := S.cel
  go_wp2_with fail
  refine (KE.out S.lie.2.1 S.lie.1).mono ?_
  clear x0 x1
  rintro e y2 ⟨A3, n3, c3, A4, n4, c4, rfl, M1, M2, B1⟩
  have S := ((S.next B1).put M1).put M2
  clear M1 M2 B1 KE
  have S := S.box (.slice A3 n3 c3) (.slice A4 n4 c4)
  generalize hv : y2.alloc (.cells #[.slice A3 n3 c3, .slice A4 n4 c4] 50) = v2 at *
  go_wp2_with fail
  clear hv
  generalize y2.heap.size = z3 at *
  refine (KD.out _).mono ?_
  rintro e w' ⟨rfl, rfl⟩
  go_wp2_with fail
  refine (inf_call _).mono ?_
  rintro e w' ⟨rfl, rfl⟩
  go_wp2_with fail
  refine (KU.out _).mono ?_
  rintro e w' ⟨rfl, rfl⟩
  clear KD KU
  have S := S.boxT 67 (.float .f64 g) (.float .f64 h)
  generalize hv : v2.alloc (.cells #[.float .f64 g, .float .f64 h] 67) = v3 at *
  go_wp2_with fail
  clear hv
  generalize v2.heap.size = zb at *
  have SS := Lib.hid S
  clear S
  go_loopg [54] 2 (fun gk s54 wr => ∃ i : Nat, i + gk = 2 ∧ s54 = .int .i64 (i : Int) ∧ Hid (Fs w [(zb, .float .f64 g, .float .f64 h), (z3, .slice A3 n3 c3, .slice A4 n4 c4), (w.heap.size, .slice A n c, .slice A' n' c')] [(A4, n4, c4, limbs U2), (A3, n3, c3, limbs U1), (A', n', c', limbs q), (A, n, c, limbs p)] wr))
  case atStart => exact ⟨0, by omega, rfl, SS⟩
  case round =>
    clear SS
    obtain ⟨i, hg, rfl, S⟩ := hrel
    have S := S.out
    have HG := Lib.hid hg
    rcases (show i = 0 ∨ i = 1 ∨ i = 2 by omega) with rfl | rfl | rfl
    · obtain ⟨nl, X', Y', k1, k2, o, fk, ch, hE, hN⟩ := N0.out
      obtain ⟨X1, Y1, o1, KX⟩ := KA.out.ey (x := g) (r := g) false (by simp) nl (Or.inl rfl)
      obtain ⟨rfl, rfl⟩ := o.same o1
      have KX := Lib.hid KX
      have FO := Lib.hid o.fq
      have FK := Lib.hid fk
      have HE := Lib.hid hE
      obtain ⟨N, hn⟩ : ∃ N, cmpN k1 k2 U1 U2 = N := ⟨_, rfl⟩
      rw [hn] at hN
      have HN := Lib.hid hn
      have dN : decide (N < 0) = false := by simp; omega
      have CH := Lib.hid ch
      clear o o1 fk hE hn hN nl ch hg
      obtain ⟨⟨f0, f1, -⟩, -⟩ := S.cel
      go_wp2_with fail
      refine (KX.out _).mono ?_
      clear f0 f1
      rintro e y5 ⟨A5, n5, c5, A6, n6, c6, rfl, M1, M2, B1⟩
      have S := ((S.next B1).put M1).put M2
      clear M1 M2 B1 KX
      have S := S.box (.slice A5 n5 c5) (.slice A6 n6 c6)
      generalize hv : y5.alloc (.cells #[.slice A5 n5 c5, .slice A6 n6 c6] 50) = v5 at *
      obtain ⟨⟨b0, b1, -⟩, -, -, ⟨x0, x1, -⟩, -⟩ := S.cel
      go_wp2_with fail
      clear hv
      generalize y5.heap.size = z5 at *
      have KK := ratSub_any S.lie.2.2.2.2.2.1 S.lie.2.2.2.2.1 S.lie.2.1 S.lie.1 FF.out FO.out
      rcases CH.out with ch | ⟨ch, ch'⟩
      · rw [ch] at KK
        refine KK.mono ?_
        clear KK b0 b1 x0 x1 ch CH
        rintro e y6 ⟨A7, n7, c7, A8, n8, c8, rfl, M1, M2, B1⟩
        have S := ((S.next B1).put M1).put M2
        clear M1 M2 B1
        have S := S.box (.slice A7 n7 c7) (.slice A8 n8 c8)
        generalize hv : y6.alloc (.cells #[.slice A7 n7 c7, .slice A8 n8 c8] 50) = v6 at *
        obtain ⟨⟨s0, s1, -⟩, -, -, ⟨t0, t1, -⟩, -⟩ := S.cel
        go_wp2_with fail
        clear hv
        generalize y6.heap.size = z6 at *
        have KK := ratCmp_any S.lie.2.1 S.lie.1 S.lie.2.2.2.2.2.1 S.lie.2.2.2.2.1 FK.out FD.out
        rw [HE.out, HN.out] at KK
        refine KK.mono ?_
        clear KK s0 s1 t0 t1 HE HN FK FO
        rintro e y7 ⟨rfl, B1⟩
        have S := S.next B1
        clear B1
        go_wp2_with fail
        have SF : Hid (Fs w [(zb, .float .f64 g, .float .f64 h), (z3, .slice A3 n3 c3, .slice A4 n4 c4), (w.heap.size, .slice A n c, .slice A' n' c')] [(A4, n4, c4, limbs U2), (A3, n3, c3, limbs U1), (A', n', c', limbs q), (A, n, c, limbs p)] _) := ⟨S.lie.2.2.2.2, S.cel.2.2, S.bl⟩
        clear S
        go_roundg (gk - 1)
        case measure => have := HG.out; omega
        case rel =>
          go_light
          exact ⟨1, by have := HG.out; omega, by rfl, SF⟩
      · rw [ch] at KK
        refine KK.mono ?_
        clear KK b0 b1 x0 x1 ch CH
        have CH := Lib.hid ch'
        clear ch'
        rintro e y6 ⟨A7, n7, c7, A8, n8, c8, rfl, M1, M2, B1⟩
        have S := S.next B1
        clear M1 M2 B1
        obtain ⟨⟨-, -, -, -, q1⟩, ⟨-, -, -, -, q2⟩, ⟨-, -, -, -, q3⟩, ⟨-, -, -, -, q4⟩, -⟩ := S.cel
        have q5 := S.bl.size
        have S := S.box (.slice A7 n7 c7) (.slice A8 n8 c8)
        generalize hv : y6.alloc (.cells #[.slice A7 n7 c7, .slice A8 n8 c8] 50) = v6 at *
        obtain ⟨-, ⟨s0, s1, -⟩, -, -, ⟨t0, t1, -⟩, -⟩ := S.cel
        go_wp2_with fail
        clear hv
        generalize y6.heap.size = z6 at *
        have KK := ratSub_any S.lie.2.1 S.lie.1 S.lie.2.2.2.2.2.1 S.lie.2.2.2.2.1 FO.out FF.out
        rw [CH.out] at KK
        refine KK.mono ?_
        clear KK s0 s1 t0 t1 CH
        rintro e y8 ⟨A9, n9, c9, A0, m0, c0, rfl, M1, M2, B1⟩
        have S := ((S.next B1).put M1).put M2
        clear M1 M2 B1
        obtain ⟨⟨s0, s1, s2, s3, s4⟩, -⟩ := S.cel
        go_upto_region 14 with fail
        have S := Fs.set (p := []) S (by omega) (by simp; omega) (.slice A9 n9 c9) (.slice A0 m0 c0)
        simp only [List.nil_append] at S
        clear s0 s1 s2 s3 s4 q1 q2 q3 q4 q5
        generalize (y8.setCell ⟨z6, 0, none⟩ (.slice A9 n9 c9)).setCell ⟨z6, 1, none⟩ (.slice A0 m0 c0) = v8 at *
        obtain ⟨⟨s0, s1, -⟩, -, -, ⟨t0, t1, -⟩, -⟩ := S.cel
        go_wp2_with fail
        have KK := ratCmp_any S.lie.2.1 S.lie.1 S.lie.2.2.2.2.2.1 S.lie.2.2.2.2.1 FK.out FD.out
        rw [HE.out, HN.out] at KK
        refine KK.mono ?_
        clear KK s0 s1 t0 t1 HE HN FK FO
        rintro e y7 ⟨rfl, B1⟩
        have S := S.next B1
        clear B1
        go_wp2_with fail
        have SF : Hid (Fs w [(zb, .float .f64 g, .float .f64 h), (z3, .slice A3 n3 c3, .slice A4 n4 c4), (w.heap.size, .slice A n c, .slice A' n' c')] [(A4, n4, c4, limbs U2), (A3, n3, c3, limbs U1), (A', n', c', limbs q), (A, n, c, limbs p)] _) := ⟨S.lie.2.2.2.2, S.cel.2.2, S.bl⟩
        clear S
        go_roundg (gk - 1)
        case measure => have := HG.out; omega
        case rel =>
          go_light
          exact ⟨1, by have := HG.out; omega, by rfl, SF⟩
    · obtain ⟨nl, X', Y', k1, k2, o, fk, ch, hE, hN⟩ := N1.out
      obtain ⟨X1, Y1, o1, KX⟩ := KA.out.ey (x := h) (r := h) false (by simp) nl (Or.inl rfl)
      obtain ⟨rfl, rfl⟩ := o.same o1
      have KX := Lib.hid KX
      have FO := Lib.hid o.fq
      have FK := Lib.hid fk
      have HE := Lib.hid hE
      obtain ⟨N, hn⟩ : ∃ N, cmpN k1 k2 U1 U2 = N := ⟨_, rfl⟩
      rw [hn] at hN
      have HN := Lib.hid hn
      have dN : decide (N < 0) = false := by simp; omega
      have CH := Lib.hid ch
      clear o o1 fk hE hn hN nl ch hg
      obtain ⟨⟨f0, f1, -⟩, -⟩ := S.cel
      go_wp2_with fail
      refine (KX.out _).mono ?_
      clear f0 f1
      rintro e y5 ⟨A5, n5, c5, A6, n6, c6, rfl, M1, M2, B1⟩
      have S := ((S.next B1).put M1).put M2
      clear M1 M2 B1 KX
      have S := S.box (.slice A5 n5 c5) (.slice A6 n6 c6)
      generalize hv : y5.alloc (.cells #[.slice A5 n5 c5, .slice A6 n6 c6] 50) = v5 at *
      obtain ⟨⟨b0, b1, -⟩, -, -, ⟨x0, x1, -⟩, -⟩ := S.cel
      go_wp2_with fail
      clear hv
      generalize y5.heap.size = z5 at *
      have KK := ratSub_any S.lie.2.2.2.2.2.1 S.lie.2.2.2.2.1 S.lie.2.1 S.lie.1 FF.out FO.out
      rcases CH.out with ch | ⟨ch, ch'⟩
      · rw [ch] at KK
        refine KK.mono ?_
        clear KK b0 b1 x0 x1 ch CH
        rintro e y6 ⟨A7, n7, c7, A8, n8, c8, rfl, M1, M2, B1⟩
        have S := ((S.next B1).put M1).put M2
        clear M1 M2 B1
        have S := S.box (.slice A7 n7 c7) (.slice A8 n8 c8)
        generalize hv : y6.alloc (.cells #[.slice A7 n7 c7, .slice A8 n8 c8] 50) = v6 at *
        obtain ⟨⟨s0, s1, -⟩, -, -, ⟨t0, t1, -⟩, -⟩ := S.cel
        go_wp2_with fail
        clear hv
        generalize y6.heap.size = z6 at *
        have KK := ratCmp_any S.lie.2.1 S.lie.1 S.lie.2.2.2.2.2.1 S.lie.2.2.2.2.1 FK.out FD.out
        rw [HE.out, HN.out] at KK
        refine KK.mono ?_
        clear KK s0 s1 t0 t1 HE HN FK FO
        rintro e y7 ⟨rfl, B1⟩
        have S := S.next B1
        clear B1
        go_wp2_with fail
        have SF : Hid (Fs w [(zb, .float .f64 g, .float .f64 h), (z3, .slice A3 n3 c3, .slice A4 n4 c4), (w.heap.size, .slice A n c, .slice A' n' c')] [(A4, n4, c4, limbs U2), (A3, n3, c3, limbs U1), (A', n', c', limbs q), (A, n, c, limbs p)] _) := ⟨S.lie.2.2.2.2, S.cel.2.2, S.bl⟩
        clear S
        go_roundg (gk - 1)
        case measure => have := HG.out; omega
        case rel =>
          go_light
          exact ⟨2, by have := HG.out; omega, by rfl, SF⟩
      · rw [ch] at KK
        refine KK.mono ?_
        clear KK b0 b1 x0 x1 ch CH
        have CH := Lib.hid ch'
        clear ch'
        rintro e y6 ⟨A7, n7, c7, A8, n8, c8, rfl, M1, M2, B1⟩
        have S := S.next B1
        clear M1 M2 B1
        obtain ⟨⟨-, -, -, -, q1⟩, ⟨-, -, -, -, q2⟩, ⟨-, -, -, -, q3⟩, ⟨-, -, -, -, q4⟩, -⟩ := S.cel
        have q5 := S.bl.size
        have S := S.box (.slice A7 n7 c7) (.slice A8 n8 c8)
        generalize hv : y6.alloc (.cells #[.slice A7 n7 c7, .slice A8 n8 c8] 50) = v6 at *
        obtain ⟨-, ⟨s0, s1, -⟩, -, -, ⟨t0, t1, -⟩, -⟩ := S.cel
        go_wp2_with fail
        clear hv
        generalize y6.heap.size = z6 at *
        have KK := ratSub_any S.lie.2.1 S.lie.1 S.lie.2.2.2.2.2.1 S.lie.2.2.2.2.1 FO.out FF.out
        rw [CH.out] at KK
        refine KK.mono ?_
        clear KK s0 s1 t0 t1 CH
        rintro e y8 ⟨A9, n9, c9, A0, m0, c0, rfl, M1, M2, B1⟩
        have S := ((S.next B1).put M1).put M2
        clear M1 M2 B1
        obtain ⟨⟨s0, s1, s2, s3, s4⟩, -⟩ := S.cel
        go_upto_region 14 with fail
        have S := Fs.set (p := []) S (by omega) (by simp; omega) (.slice A9 n9 c9) (.slice A0 m0 c0)
        simp only [List.nil_append] at S
        clear s0 s1 s2 s3 s4 q1 q2 q3 q4 q5
        generalize (y8.setCell ⟨z6, 0, none⟩ (.slice A9 n9 c9)).setCell ⟨z6, 1, none⟩ (.slice A0 m0 c0) = v8 at *
        obtain ⟨⟨s0, s1, -⟩, -, -, ⟨t0, t1, -⟩, -⟩ := S.cel
        go_wp2_with fail
        have KK := ratCmp_any S.lie.2.1 S.lie.1 S.lie.2.2.2.2.2.1 S.lie.2.2.2.2.1 FK.out FD.out
        rw [HE.out, HN.out] at KK
        refine KK.mono ?_
        clear KK s0 s1 t0 t1 HE HN FK FO
        rintro e y7 ⟨rfl, B1⟩
        have S := S.next B1
        clear B1
        go_wp2_with fail
        have SF : Hid (Fs w [(zb, .float .f64 g, .float .f64 h), (z3, .slice A3 n3 c3, .slice A4 n4 c4), (w.heap.size, .slice A n c, .slice A' n' c')] [(A4, n4, c4, limbs U2), (A3, n3, c3, limbs U1), (A', n', c', limbs q), (A, n, c, limbs p)] _) := ⟨S.lie.2.2.2.2, S.cel.2.2, S.bl⟩
        clear S
        go_roundg (gk - 1)
        case measure => have := HG.out; omega
        case rel =>
          go_light
          exact ⟨2, by have := HG.out; omega, by rfl, SF⟩
    · clear hg
      go_wp2_with fail
      refine (awake4 KA.out _).mono ?_
      rintro e y9 ⟨rfl, B1⟩
      have S := S.next B1
      go_wp2_with fail
      go_ret
      exact ⟨rfl, S.bl⟩
theorem walk (K : App) {A A' : Option Addr} {n c n' c' : Nat} {xs ys : List Nat} {w : World} (h0 : Lim w A n c xs) (h1 : Lim w A' n' c' ys) : Calls Tryd.prog 11 #[.agg #[.slice A n c, .slice A' n' c']] w fun e w' => e = .returned (.bool true) ∧ Below w.heap.size w w' := by
  by_cases z : n ≤ 8
  · by_cases z' : n' ≤ 8
    · by_cases f : Fr xs ys
      · obtain ⟨k, e0, e1⟩ := f.num h0.lo h1.lo
        exact yes K (e0 ▸ h0) (e1 ▸ h1) z z' k
      · exact none_ K h0 h1 z z' f
    · exact long2 K z z'
  · exact long1 K z
end Go.Proofs.YtdnikdocfbbkkaaDoor.approxNear
