/- The walk of awake: the fixed answer of the stage. -/
import Derived.Test.YtnacokogihanoaaDoorRD
namespace Go.Proofs.YtnacokogihanoaaDoor
open Go.RowKit
set_option linter.unusedVariables false
set_option linter.unusedSimpArgs false

theorem Fs.alloc {w W : World} {cs : List (Nat × Value × Value)} {l : List (Option Addr × Nat × Nat × List Nat)} (s : Fs w cs l W) (o : Obj) : Fs w cs l (W.alloc o) := s.next ((Below.refl _ _).alloc (Nat.le_refl _) o)
theorem below_al {w W : World} (h : Below w.heap.size w W) (o : Obj) : Below w.heap.size w (W.alloc o) := h.alloc h.size o
theorem newc {Y z : World} {a b : Value} {t : TypeId} (h : Below (Y.alloc (.cells #[a, b] t)).heap.size (Y.alloc (.cells #[a, b] t)) z) : z.cell? ⟨Y.heap.size, 0, none⟩ = some a ∧ z.cell? ⟨Y.heap.size, 1, none⟩ = some b ∧ z.frozen? ⟨Y.heap.size, 0, none⟩ = false ∧ z.frozen? ⟨Y.heap.size, 1, none⟩ = false ∧ Y.heap.size < z.heap.size := by
  have c0 : (Y.alloc (.cells #[a, b] t)).cell? ⟨Y.heap.size, 0, none⟩ = some a := by simp [go_sem]
  have c1 : (Y.alloc (.cells #[a, b] t)).cell? ⟨Y.heap.size, 1, none⟩ = some b := by simp [go_sem]
  have q := h.size
  rw [World.size_alloc] at q
  exact ⟨keep_cell h c0, keep_cell h c1, keep_melt h c0 (by simp [go_sem]), keep_melt h c1 (by simp [go_sem]), by omega⟩
theorem newcd {Y z : World} {a b : Value} {t : TypeId} (h : Below (Y.alloc (.cells #[a, b] t)).drew.heap.size (Y.alloc (.cells #[a, b] t)).drew z) : z.cell? ⟨Y.heap.size, 0, none⟩ = some a ∧ z.cell? ⟨Y.heap.size, 1, none⟩ = some b ∧ z.frozen? ⟨Y.heap.size, 0, none⟩ = false ∧ z.frozen? ⟨Y.heap.size, 1, none⟩ = false ∧ Y.heap.size < z.heap.size :=
  newc (below_step (Below.refl _ _).drew h)
theorem lim_one (w : World) (x : Nat) (hx : x < 4294967296) (h0 : x ≠ 0) : Lim (w.alloc (.cells #[.int .u32 (x : Int)] 37)) (some ⟨w.heap.size, 0, none⟩) 1 1 (limbs x) := by
  have R := (Row.new_of w [x] #[.int .u32 (x : Int)] (.cons hx .nil) (by simp)).lim (o := 0) (n := 1) (c := 1) (by simp) (Nat.le_refl _) (by omega)
  rw [List.drop_zero, List.take_of_length_le (by simp)] at R
  rw [limbs_one hx h0]; exact R
theorem lt64 {x : Nat} (h : x ≤ 1000) : ln x ≤ 64 := ln_tiny (by omega)
theorem f12 : Fq 1 2 := ⟨lt64 (by decide), lt64 (by decide), by decide, by decide⟩
theorem f16 : Fq 1 6 := ⟨lt64 (by decide), lt64 (by decide), by decide, by decide⟩
theorem f01 : Fq 0 1 := ⟨lt64 (by decide), lt64 (by decide), by decide, by decide⟩
theorem f23 : Fq 2 3 := ⟨lt64 (by decide), lt64 (by decide), by decide, by decide⟩
theorem red24 : red 2 4 = (1, 2, 0) := by decide
theorem red16 : red 1 6 = (1, 6, 0) := by decide
theorem add_t : addR 1 2 1 6 = (2, 3, 0) := by
  rw [addR_yes (lt64 (by decide)) (lt64 (by decide)) (lt64 (by decide)) (lt64 (by decide))]; decide
theorem sub_t : subR 1 6 1 2 = (0, 0, 1) := subR_low (lt64 (by decide)) (lt64 (by decide)) (lt64 (by decide)) (by decide)
theorem cmp_t : cmpN 1 6 1 2 = -1 := by rw [cmpN_yes (lt64 (by decide)) (lt64 (by decide))]; exact sgn_lt (by decide)
theorem cmp_e : cmpE 1 6 1 2 = 0 := cmpE_yes (lt64 (by decide)) (lt64 (by decide))
theorem dt (x : Nat) (h : x < 10) : dtext x = [48 + UInt8.ofNat x] := by
  rcases (by omega : x = 0 ∨ x = 1 ∨ x = 2 ∨ x = 3 ∨ x = 4 ∨ x = 5 ∨ x = 6 ∨ x = 7 ∨ x = 8 ∨ x = 9) with rfl | rfl | rfl | rfl | rfl | rfl | rfl | rfl | rfl | rfl
  · rw [dtext_zero]; rfl
  all_goals (rw [dtext_pos (by decide), tens_pos (by decide), tens_zero]; rfl)
theorem text_t : dtext 2 ++ 47 :: dtext 3 = [50, 47, 51] := by rw [dt 2 (by decide), dt 3 (by decide)]; rfl
theorem text_z : dtext 0 ++ 47 :: dtext 1 = [48, 47, 49] := by rw [dt 0 (by decide), dt 1 (by decide)]; rfl
theorem nofr : ¬ Fr (limbs 2) (limbs 4) := fun h => by
  have := h.2.2.2
  rw [val_limbs, val_limbs] at this
  exact absurd this (by decide)
theorem make24 {W : World} {A A' : Option Addr} {n c n' c' : Nat} (h : Lim W A n c (limbs 2)) (h' : Lim W A' n' c' (limbs 4)) : Calls Tryd.prog 47 #[.slice A n c, .slice A' n' c'] W fun e w' => RetA3 (1, 2, 0) W e w' := red24 ▸ make_yes h h' (lt64 (by decide)) (lt64 (by decide)) (by decide)
theorem make16 {W : World} {A A' : Option Addr} {n c n' c' : Nat} (h : Lim W A n c (limbs 1)) (h' : Lim W A' n' c' (limbs 6)) : Calls Tryd.prog 47 #[.slice A n c, .slice A' n' c'] W fun e w' => RetA3 (1, 6, 0) W e w' := red16 ▸ make_yes h h' (lt64 (by decide)) (lt64 (by decide)) (by decide)

set_option maxHeartbeats 8000000 in
set_option maxRecDepth 100000 in
theorem awake3 (w : World) : Calls Tryd.prog 34 #[] w fun e w' => e = .returned (.bool true) ∧ Below w.heap.size w w' := by
  have KW : Hid (∀ W, Calls Tryd.prog 48 #[.int .u64 0] W fun e w' => RetR 0 1 W e w') := fun W => whole_r 0 (by decide) W
  have L2 := Lib.hid (fun W : World => lim_one W 2 (by decide) (by decide))
  have L4 := Lib.hid (fun W : World => lim_one W 4 (by decide) (by decide))
  have L1 := Lib.hid (fun W : World => lim_one W 1 (by decide) (by decide))
  have L6 := Lib.hid (fun W : World => lim_one W 6 (by decide) (by decide))
  go_enter Tryd.func34, Tryd.ntmps34
  go_wp2_with fail
  have K := make24 ((L2.out w).alloc (.cells #[.int .u32 4] 37)) (L4.out _)
  simp only [World.size_alloc] at K
  refine K.mono ?_
  clear K
  rintro e w1 ⟨A1, n1, c1, A2, n2, c2, rfl, M1, M2, B1⟩
  have S := ((((Fs.start w).alloc (.cells #[.int .u32 2] 37)).alloc (.cells #[.int .u32 4] 37)).next B1).put M1 |>.put M2
  clear M1 M2 B1
  have S := S.box (.slice A1 n1 c1) (.slice A2 n2 c2)
  go_wp2_with fail
  have E1 : (w1.alloc (.cells #[.slice A1 n1 c1, .slice A2 n2 c2] 50)).heap.size = w1.heap.size + 1 := World.size_alloc _ _
  generalize w1.alloc (.cells #[.slice A1 n1 c1, .slice A2 n2 c2] 50) = v1 at *
  generalize w1.heap.size = bh at *
  have K := make16 ((L1.out v1).alloc (.cells #[.int .u32 6] 37)) (L6.out _)
  simp only [World.size_alloc, E1] at K
  refine K.mono ?_
  clear K E1
  rintro e w2 ⟨A3, n3, c3, A4, n4, c4, rfl, M1, M2, B1⟩
  have S := (((S.alloc (.cells #[.int .u32 1] 37)).alloc (.cells #[.int .u32 6] 37)).next B1).put M1 |>.put M2
  clear M1 M2 B1
  have S := S.box (.slice A3 n3 c3) (.slice A4 n4 c4)
  generalize hv2 : w2.alloc (.cells #[.slice A3 n3 c3, .slice A4 n4 c4] 50) = v2 at *
  obtain ⟨⟨s0, s1, -⟩, ⟨h0, h1, -⟩, -⟩ := S.cel
  go_wp2_with fail
  have K := ratAdd_any S.lie.2.2.2.1 S.lie.2.2.1 S.lie.2.1 S.lie.1 f12 f16
  rw [add_t] at K
  refine K.mono ?_
  clear K s0 s1 h0 h1 hv2
  generalize w2.heap.size = bs at *
  rintro e w3 ⟨A5, n5, c5, A6, n6, c6, rfl, M1, M2, B1⟩
  have S := ((S.next B1).put M1).put M2
  clear M1 M2 B1
  have S := S.box (.slice A5 n5 c5) (.slice A6 n6 c6)
  generalize hv3 : w3.alloc (.cells #[.slice A5 n5 c5, .slice A6 n6 c6] 50) = v3 at *
  go_upto_region 4 with fail
  clear hv3
  generalize w3.heap.size = bt at *
  obtain ⟨-, -, ⟨h0, h1, -, -, hz⟩, -⟩ := S.cel
  have LH1 := Lib.hid S.lie.2.2.2.2.2.1
  have LH2 := Lib.hid S.lie.2.2.2.2.1
  have S4 := Lib.hid S
  clear S
  go_cut [8] (fun s8 wx => s8 = .int .i64 7 ∧ Fs w [(bt, .slice A5 n5 c5, .slice A6 n6 c6), (bs, .slice A3 n3 c3, .slice A4 n4 c4), (bh, .slice A1 n1 c1, .slice A2 n2 c2)] [(A6, n6, c6, limbs 3), (A5, n5, c5, limbs 2), (A4, n4, c4, limbs 6), (A3, n3, c3, limbs 1), (A2, n2, c2, limbs 2), (A1, n1, c1, limbs 1)] wx)
  case first =>
    go_region_held3 (fun w' => w'.cell? ⟨bh, 0, none⟩ = some (.slice A1 n1 c1) ∧ w'.cell? ⟨bh, 1, none⟩ = some (.slice A2 n2 c2))
      ((refine ⟨?_, ?_⟩ <;> (repeat (first | with_reducible exact h0 | with_reducible exact h1 | with_reducible refine keep_drew ?_ | with_reducible refine keep_alloc ?_ _ | with_reducible refine keep_set ?_ _ (by simp only [World.size_alloc, World.size_drew]; omega) | with_reducible refine keep_cell (by assumption) ?_))))
      (first
        | (go_at_call 48; refine (KW.out _).mono ?_; rintro e z ⟨A8, n8, c8, A9, n9, c9, rfl, L8, L9, B8⟩; have q8 := B8.size; (try simp only [World.size_alloc, World.size_drew] at q8); (try ((first | have kk := newc B8 | have kk := newcd B8); obtain ⟨k0, k1, k2, k3, k4⟩ := kk; (try simp only [World.size_drew] at k0 k1 k2 k3 k4))))
        | (go_at_call 40; refine (ratDiv_any (LH1.out.next ?_) (LH2.out.next ?_) (by first | assumption | exact Lim.alloc (by assumption) _) (by first | assumption | exact Lim.alloc (by assumption) _) f12 f01).mono ?_; (· repeat (first | with_reducible exact Below.refl _ _ | with_reducible exact (Below.refl _ _).drew | with_reducible refine below_al ?_ _ | with_reducible refine Below.drew ?_ | refine below_step ?_ (by assumption))); (· repeat (first | with_reducible exact Below.refl _ _ | with_reducible exact (Below.refl _ _).drew | with_reducible refine below_al ?_ _ | with_reducible refine Below.drew ?_ | refine below_step ?_ (by assumption))); rw [divR_zero]; rintro e z2 ⟨AA, na, ca, AB, nb, cb, rfl, LA, LB, B9⟩; have q9 := B9.size; (try simp only [World.size_alloc, World.size_drew] at q9); first | ((first | have jj := newc B9 | have jj := newcd B9); obtain ⟨j0, j1, j2, j3, j4⟩ := jj; (try simp only [World.size_drew] at j0 j1 j2 j3 j4)) | (have j0 := keep_cell B9 k0; have j1 := keep_cell B9 k1; have j2 := keep_melt B9 k0 k2; have j3 := keep_melt B9 k1 k3; have j4 := Nat.lt_of_lt_of_le k4 q9) | skip))
    all_goals go_wp2_with fail
    all_goals go_meet
    all_goals go_light
    all_goals refine ⟨rfl, S4.out.next ?_⟩
    all_goals (repeat (first | with_reducible exact Below.refl _ _ | with_reducible exact (Below.refl _ _).drew | with_reducible refine below_al ?_ _ | with_reducible refine Below.drew ?_ | (with_reducible refine Below.setCell ?_ ?_ _; rotate_left; (· (simp only []; omega))) | refine below_step ?_ (by assumption)))
  case rest =>
    clear h0 h1 hz LH1 LH2 S4
    obtain ⟨rfl, S⟩ := hcut
    obtain ⟨⟨t0, t1, -⟩, ⟨s0, s1, -⟩, ⟨h0, h1, -⟩, -⟩ := S.cel
    go_wp2_with fail
    have K := ratSub_any S.lie.2.2.2.1 S.lie.2.2.1 S.lie.2.2.2.2.2.1 S.lie.2.2.2.2.1 f16 f12
    rw [sub_t] at K
    refine K.mono ?_
    clear K t0 t1 s0 s1 h0 h1
    rintro e w4 ⟨AC, na, ca, AD, nb, cb, rfl, M1, M2, B1⟩
    have S := S.next B1
    clear M1 M2 B1
    have S := S.box (.slice AC na ca) (.slice AD nb cb)
    generalize hv4 : w4.alloc (.cells #[.slice AC na ca, .slice AD nb cb] 50) = v4 at *
    obtain ⟨-, ⟨t0, t1, -⟩, ⟨s0, s1, -⟩, ⟨h0, h1, -⟩, -⟩ := S.cel
    go_wp2_with fail
    have K := ratCmp_any S.lie.2.2.2.1 S.lie.2.2.1 S.lie.2.2.2.2.2.1 S.lie.2.2.2.2.1 f16 f12
    rw [cmp_t, cmp_e] at K
    refine K.mono ?_
    clear K t0 t1 s0 s1 h0 h1 hv4
    rintro e w5 ⟨rfl, B1⟩
    have S := S.next B1
    clear B1
    obtain ⟨-, ⟨t0, t1, -⟩, ⟨s0, s1, -⟩, ⟨h0, h1, -⟩, -⟩ := S.cel
    go_wp2_with fail
    have K := ratText_yes S.lie.2.1 S.lie.1 f23
    rw [text_t] at K
    refine K.mono ?_
    clear K t0 t1 s0 s1 h0 h1
    rintro e w6 ⟨rfl, B1⟩
    have S := S.next B1
    clear B1
    obtain ⟨-, -, -, ⟨h0, h1, -⟩, -⟩ := S.cel
    go_wp2_with fail
    have K := ratRight_any S.lie.2.2.2.2.2.1 S.lie.2.2.2.2.1
    rw [frB_yes f12.fr] at K
    refine K.mono ?_
    clear K h0 h1
    rintro e w7 ⟨rfl, B1⟩
    have S := S.next B1
    clear B1
    go_wp2_with fail
    have K := ratRight_any ((L2.out w7).alloc (.cells #[.int .u32 4] 37)) (L4.out _)
    rw [frB_no nofr] at K
    simp only [World.size_alloc] at K
    refine K.mono ?_
    clear K
    rintro e w8 ⟨rfl, B1⟩
    have S := ((S.alloc (.cells #[.int .u32 2] 37)).alloc (.cells #[.int .u32 4] 37)).next (by rw [World.size_alloc, World.size_alloc]; exact B1)
    clear B1
    go_wp2_with fail
    refine (KW.out _).mono ?_
    rintro e w9 ⟨AE, ne, ce, AF, nf, cf, rfl, M1, M2, B1⟩
    have S := (S.next B1).put M1 |>.put M2
    clear M1 M2 B1
    go_wp2_with fail
    have K := ratText_yes S.lie.2.1 S.lie.1 f01
    rw [text_z] at K
    refine K.mono ?_
    clear K
    rintro e wa ⟨rfl, B1⟩
    have S := S.next B1
    clear B1
    go_wp2_with fail
    go_ret
    exact ⟨rfl, S.bl⟩
end Go.Proofs.YtnacokogihanoaaDoor
