/- The walk of awake: the fixed answer of the stage. The walk of the document's Same, of fractions. Plain arithmetic: halves of limbs, of 16 bits each. The document's answers: halves in memory; the walks of Half, Whole. -/
import Derived.Test.YtdnikdocfbbkkaaDoorJ09
import Derived.Test.YtdnikdocfbbkkaaDoorJ00
import Derived.Test.YtdnikdocfbbkkaaDoorJ05
namespace Go.Proofs.YtdnikdocfbbkkaaDoor
open Go.RowKit
set_option linter.unusedVariables false
set_option linter.unusedSimpArgs false

theorem Fs.alloc {w W : World} {cs : List (Nat × Value × Value)} {l : List (Option Addr × Nat × Nat × List Nat)} (s : Fs w cs l W) (o : Obj) : Fs w cs l (W.alloc o) := s.next ((Below.refl _ _).alloc (Nat.le_refl _) o)
theorem below_al {w W : World} (h : Below w.heap.size w W) (o : Obj) : Below w.heap.size w (W.alloc o) := h.alloc h.size o
theorem newc {Y z : World} {a b : Value} {t : TypeId} (h : Below (Y.alloc (.cells #[a, b] t)).heap.size (Y.alloc (.cells #[a, b] t)) z) : z.cell? ⟨Y.heap.size, 0, none⟩ = some a ∧ z.cell? ⟨Y.heap.size, 1, none⟩ = some b ∧ z.frozen? ⟨Y.heap.size, 0, none⟩ = false ∧ z.frozen? ⟨Y.heap.size, 1, none⟩ = false ∧ Y.heap.size < z.heap.size := by
  have c0 : (Y.alloc (.cells #[a, b] t)).cell? ⟨Y.heap.size, 0, none⟩ = some a := by simp [go_sem]
  have c1 : (Y.alloc (.cells #[a, b] t)).cell? ⟨Y.heap.size, 1, none⟩ = some b := by simp [go_sem]
  have q := h.size
  rw [World.size_alloc] at q
  exact ⟨keep_cell h c0, keep_cell h c1, keep_melt h c0 (by simp [go_sem]), keep_melt h c1 (by simp [go_sem]), by omega⟩
theorem newcd {Y z : World} {a b : Value} {t : TypeId} (h : Below (Y.alloc (.cells #[a, b] t)).drew.heap.size (Y.alloc (.cells #[a, b] t)).drew z) : z.cell? ⟨Y.heap.size, 0, none⟩ = some a ∧ z.cell? ⟨Y.heap.size, 1, none⟩ = some b ∧ z.frozen? ⟨Y.heap.size, 0, none⟩ = false ∧ z.frozen? ⟨Y.heap.size, 1, none⟩ = false ∧ Y.heap.size < z.heap.size :=
  newc (below_step (Below.refl _ _).drew h)
theorem lim_one (w : World) (x : Nat) (hx : x < 4294967296) (h0 : x ≠ 0) : Lim (w.alloc (.cells #[.int .u32 (x : Int)] 37)) (some ⟨w.heap.size, 0, none⟩) 1 1 (limbs x) := by
  have R := (Row.new_of w [x] #[.int .u32 (x : Int)] (.cons hx .nil) (by simp)).lim (o := 0) (n := 1) (c := 1) (by simp) (Nat.le_refl _) (by omega)
  rw [List.drop_zero, List.take_of_length_le (by simp)] at R
  rw [limbs_one hx h0]; exact R
theorem lt64 {x : Nat} (h : x ≤ 1000) : ln x ≤ 64 := ln_tiny (by omega)
theorem f12 : Fq 1 2 := ⟨lt64 (by decide), lt64 (by decide), by decide, by decide⟩
theorem f16 : Fq 1 6 := ⟨lt64 (by decide), lt64 (by decide), by decide, by decide⟩
theorem f01 : Fq 0 1 := ⟨lt64 (by decide), lt64 (by decide), by decide, by decide⟩
theorem f23 : Fq 2 3 := ⟨lt64 (by decide), lt64 (by decide), by decide, by decide⟩
theorem red24 : red 2 4 = (1, 2, 0) := by decide
theorem red16 : red 1 6 = (1, 6, 0) := by decide
theorem add_t : addR 1 2 1 6 = (2, 3, 0) := by
  rw [addR_yes (lt64 (by decide)) (lt64 (by decide)) (lt64 (by decide)) (lt64 (by decide))]; decide
theorem sub_t : subR 1 6 1 2 = (0, 0, 1) := subR_low (lt64 (by decide)) (lt64 (by decide)) (lt64 (by decide)) (by decide)
theorem cmp_t : cmpN 1 6 1 2 = -1 := by rw [cmpN_yes (lt64 (by decide)) (lt64 (by decide))]; exact sgn_lt (by decide)
theorem cmp_e : cmpE 1 6 1 2 = 0 := cmpE_yes (lt64 (by decide)) (lt64 (by decide))
theorem dt (x : Nat) (h : x < 10) : dtext x = [48 + UInt8.ofNat x] := by
  rcases (by omega : x = 0 ∨ x = 1 ∨ x = 2 ∨ x = 3 ∨ x = 4 ∨ x = 5 ∨ x = 6 ∨ x = 7 ∨ x = 8 ∨ x = 9) with rfl | rfl | rfl | rfl | rfl | rfl | rfl | rfl | rfl | rfl
  · rw [dtext_zero]; rfl
  all_goals (rw [dtext_pos (by decide), tens_pos (by decide), tens_zero]; rfl)
theorem text_t : dtext 2 ++ 47 :: dtext 3 = [50, 47, 51] := by rw [dt 2 (by decide), dt 3 (by decide)]; rfl
theorem text_z : dtext 0 ++ 47 :: dtext 1 = [48, 47, 49] := by rw [dt 0 (by decide), dt 1 (by decide)]; rfl
theorem nofr : ¬ Fr (limbs 2) (limbs 4) := fun h => by
  have := h.2.2.2
  rw [val_limbs, val_limbs] at this
  exact absurd this (by decide)
theorem make24 {W : World} {A A' : Option Addr} {n c n' c' : Nat} (h : Lim W A n c (limbs 2)) (h' : Lim W A' n' c' (limbs 4)) : Calls Tryd.prog 49 #[.slice A n c, .slice A' n' c'] W fun e w' => RetA3 (1, 2, 0) W e w' := red24 ▸ make_yes h h' (lt64 (by decide)) (lt64 (by decide)) (by decide)
theorem make16 {W : World} {A A' : Option Addr} {n c n' c' : Nat} (h : Lim W A n c (limbs 1)) (h' : Lim W A' n' c' (limbs 6)) : Calls Tryd.prog 49 #[.slice A n c, .slice A' n' c'] W fun e w' => RetA3 (1, 6, 0) W e w' := red16 ▸ make_yes h h' (lt64 (by decide)) (lt64 (by decide)) (by decide)

set_option maxHeartbeats 8000000 in
set_option maxRecDepth 100000 in
theorem awake3 (w : World) : Calls Tryd.prog 36 #[] w fun e w' => e = .returned (.bool true) ∧ Below w.heap.size w w' := by
  have KW : Hid (∀ W, Calls Tryd.prog 50 #[.int .u64 0] W fun e w' => RetR 0 1 W e w') := fun W => whole_r 0 (by decide) W
  have L2 := Lib.hid (fun W : World => lim_one W 2 (by decide) (by decide))
  have L4 := Lib.hid (fun W : World => lim_one W 4 (by decide) (by decide))
  have L1 := Lib.hid (fun W : World => lim_one W 1 (by decide) (by decide))
  have L6 := Lib.hid (fun W : World => lim_one W 6 (by decide) (by decide))
  go_enter Tryd.func36, Tryd.ntmps36
  go_wp2_with fail
  have K := make24 ((L2.out w).alloc (.cells #[.int .u32 4] 37)) (L4.out _)
  simp only [World.size_alloc] at K
  refine K.mono ?_
  clear K
  rintro e w1 ⟨A1, n1, c1, A2, n2, c2, rfl, M1, M2, B1⟩
  have S := ((((Fs.start w).alloc (.cells #[.int .u32 2] 37)).alloc (.cells #[.int .u32 4] 37)).next B1).put M1 |>.put M2
  clear M1 M2 B1
  have S := S.box (.slice A1 n1 c1) (.slice A2 n2 c2)
  go_wp2_with fail
  have E1 : (w1.alloc (.cells #[.slice A1 n1 c1, .slice A2 n2 c2] 50)).heap.size = w1.heap.size + 1 := World.size_alloc _ _
  generalize w1.alloc (.cells #[.slice A1 n1 c1, .slice A2 n2 c2] 50) = v1 at *
  generalize w1.heap.size = bh at *
  have K := make16 ((L1.out v1).alloc (.cells #[.int .u32 6] 37)) (L6.out _)
  simp only [World.size_alloc, E1] at K
  refine K.mono ?_
  clear K E1
  rintro e w2 ⟨A3, n3, c3, A4, n4, c4, rfl, M1, M2, B1⟩
  have S := (((S.alloc (.cells #[.int .u32 1] 37)).alloc (.cells #[.int .u32 6] 37)).next B1).put M1 |>.put M2
  clear M1 M2 B1
  have S := S.box (.slice A3 n3 c3) (.slice A4 n4 c4)
  generalize hv2 : w2.alloc (.cells #[.slice A3 n3 c3, .slice A4 n4 c4] 50) = v2 at *
  obtain ⟨⟨s0, s1, -⟩, ⟨h0, h1, -⟩, -⟩ := S.cel
  go_wp2_with fail
  have K := ratAdd_any S.lie.2.2.2.1 S.lie.2.2.1 S.lie.2.1 S.lie.1 f12 f16
  rw [add_t] at K
  refine K.mono ?_
  clear K s0 s1 h0 h1 hv2
  generalize w2.heap.size = bs at *
  rintro e w3 ⟨A5, n5, c5, A6, n6, c6, rfl, M1, M2, B1⟩
  have S := ((S.next B1).put M1).put M2
  clear M1 M2 B1
  have S := S.box (.slice A5 n5 c5) (.slice A6 n6 c6)
  generalize hv3 : w3.alloc (.cells #[.slice A5 n5 c5, .slice A6 n6 c6] 50) = v3 at *
  go_upto_region 4 with fail
  clear hv3
  generalize w3.heap.size = bt at *
  obtain ⟨-, -, ⟨h0, h1, -, -, hz⟩, -⟩ := S.cel
  have LH1 := Lib.hid S.lie.2.2.2.2.2.1
  have LH2 := Lib.hid S.lie.2.2.2.2.1
  have S4 := Lib.hid S
  clear S
  go_cut [8] (fun s8 wx => s8 = .int .i64 7 ∧ Fs w [(bt, .slice A5 n5 c5, .slice A6 n6 c6), (bs, .slice A3 n3 c3, .slice A4 n4 c4), (bh, .slice A1 n1 c1, .slice A2 n2 c2)] [(A6, n6, c6, limbs 3), (A5, n5, c5, limbs 2), (A4, n4, c4, limbs 6), (A3, n3, c3, limbs 1), (A2, n2, c2, limbs 2), (A1, n1, c1, limbs 1)] wx)
  case first =>
    go_region_held3 (fun w' => w'.cell? ⟨bh, 0, none⟩ = some (.slice A1 n1 c1) ∧ w'.cell? ⟨bh, 1, none⟩ = some (.slice A2 n2 c2))
      ((refine ⟨?_, ?_⟩ <;> (repeat (first | with_reducible exact h0 | with_reducible exact h1 | with_reducible refine keep_drew ?_ | with_reducible refine keep_alloc ?_ _ | with_reducible refine keep_set ?_ _ (by simp only [World.size_alloc, World.size_drew]; omega) | with_reducible refine keep_cell (by assumption) ?_))))
      (first
        | (go_at_call 50; refine (KW.out _).mono ?_; rintro e z ⟨A8, n8, c8, A9, n9, c9, rfl, L8, L9, B8⟩; have q8 := B8.size; (try simp only [World.size_alloc, World.size_drew] at q8); (try ((first | have kk := newc B8 | have kk := newcd B8); obtain ⟨k0, k1, k2, k3, k4⟩ := kk; (try simp only [World.size_drew] at k0 k1 k2 k3 k4))))
        | (go_at_call 42; refine (ratDiv_any (LH1.out.next ?_) (LH2.out.next ?_) (by first | assumption | exact Lim.alloc (by assumption) _) (by first | assumption | exact Lim.alloc (by assumption) _) f12 f01).mono ?_; (· repeat (first | with_reducible exact Below.refl _ _ | with_reducible exact (Below.refl _ _).drew | with_reducible refine below_al ?_ _ | with_reducible refine Below.drew ?_ | refine below_step ?_ (by assumption))); (· repeat (first | with_reducible exact Below.refl _ _ | with_reducible exact (Below.refl _ _).drew | with_reducible refine below_al ?_ _ | with_reducible refine Below.drew ?_ | refine below_step ?_ (by assumption))); rw [divR_zero]; rintro e z2 ⟨AA, na, ca, AB, nb, cb, rfl, LA, LB, B9⟩; have q9 := B9.size; (try simp only [World.size_alloc, World.size_drew] at q9); first | ((first | have jj := newc B9 | have jj := newcd B9); obtain ⟨j0, j1, j2, j3, j4⟩ := jj; (try simp only [World.size_drew] at j0 j1 j2 j3 j4)) | (have j0 := keep_cell B9 k0; have j1 := keep_cell B9 k1; have j2 := keep_melt B9 k0 k2; have j3 := keep_melt B9 k1 k3; have j4 := Nat.lt_of_lt_of_le k4 q9) | skip))
    all_goals go_wp2_with fail
    all_goals go_meet
    all_goals go_light
    all_goals refine ⟨rfl, S4.out.next ?_⟩
    all_goals (repeat (first | with_reducible exact Below.refl _ _ | with_reducible exact (Below.refl _ _).drew | with_reducible refine below_al ?_ _ | with_reducible refine Below.drew ?_ | (with_reducible refine Below.setCell ?_ ?_ _; rotate_left; (· (simp only []; omega))) | refine below_step ?_ (by assumption)))
  case rest =>
    clear h0 h1 hz LH1 LH2 S4
    obtain ⟨rfl, S⟩ := hcut
    obtain ⟨⟨t0, t1, -⟩, ⟨s0, s1, -⟩, ⟨h0, h1, -⟩, -⟩ := S.cel
    go_wp2_with fail
    have K := ratSub_any S.lie.2.2.2.1 S.lie.2.2.1 S.lie.2.2.2.2.2.1 S.lie.2.2.2.2.1 f16 f12
    rw [sub_t] at K
    refine K.mono ?_
    clear K t0 t1 s0 s1 h0 h1
    rintro e w4 ⟨AC, na, ca, AD, nb, cb, rfl, M1, M2, B1⟩
    have S := S.next B1
    clear M1 M2 B1
    have S := S.box (.slice AC na ca) (.slice AD nb cb)
    generalize hv4 : w4.alloc (.cells #[.slice AC na ca, .slice AD nb cb] 50) = v4 at *
    obtain ⟨-, ⟨t0, t1, -⟩, ⟨s0, s1, -⟩, ⟨h0, h1, -⟩, -⟩ := S.cel
    go_wp2_with fail
    have K := ratCmp_any S.lie.2.2.2.1 S.lie.2.2.1 S.lie.2.2.2.2.2.1 S.lie.2.2.2.2.1 f16 f12
    rw [cmp_t, cmp_e] at K
    refine K.mono ?_
    clear K t0 t1 s0 s1 h0 h1 hv4
    rintro e w5 ⟨rfl, B1⟩
    have S := S.next B1
    clear B1
    obtain ⟨-, ⟨t0, t1, -⟩, ⟨s0, s1, -⟩, ⟨h0, h1, -⟩, -⟩ := S.cel
    go_wp2_with fail
    have K := ratText_yes S.lie.2.1 S.lie.1 f23
    rw [text_t] at K
    refine K.mono ?_
    clear K t0 t1 s0 s1 h0 h1
    rintro e w6 ⟨rfl, B1⟩
    have S := S.next B1
    clear B1
    obtain ⟨-, -, -, ⟨h0, h1, -⟩, -⟩ := S.cel
    go_wp2_with fail
    have K := ratRight_any S.lie.2.2.2.2.2.1 S.lie.2.2.2.2.1
    rw [frB_yes f12.fr] at K
    refine K.mono ?_
    clear K h0 h1
    rintro e w7 ⟨rfl, B1⟩
    have S := S.next B1
    clear B1
    go_wp2_with fail
    have K := ratRight_any ((L2.out w7).alloc (.cells #[.int .u32 4] 37)) (L4.out _)
    rw [frB_no nofr] at K
    simp only [World.size_alloc] at K
    refine K.mono ?_
    clear K
    rintro e w8 ⟨rfl, B1⟩
    have S := ((S.alloc (.cells #[.int .u32 2] 37)).alloc (.cells #[.int .u32 4] 37)).next (by rw [World.size_alloc, World.size_alloc]; exact B1)
    clear B1
    go_wp2_with fail
    refine (KW.out _).mono ?_
    rintro e w9 ⟨AE, ne, ce, AF, nf, cf, rfl, M1, M2, B1⟩
    have S := (S.next B1).put M1 |>.put M2
    clear M1 M2 B1
    go_wp2_with fail
    have K := ratText_yes S.lie.2.1 S.lie.1 f01
    rw [text_z] at K
    refine K.mono ?_
    clear K
    rintro e wa ⟨rfl, B1⟩
    have S := S.next B1
    clear B1
    go_wp2_with fail
    go_ret
    exact ⟨rfl, S.bl⟩
end Go.Proofs.YtdnikdocfbbkkaaDoor
namespace Go.Proofs.YtdnikdocfbbkkaaDoor
open Go.RowKit
set_option linter.unusedVariables false
set_option linter.unusedSimpArgs false

set_option maxHeartbeats 1000000 in
set_option maxRecDepth 100000 in
theorem same3_any {A A' D D' : Option Addr} {n c n' c' m k m' k' : Nat} {xs ys us vs : List Nat} {w : World} (ha : Lim w A n c xs) (ha' : Lim w A' n' c' ys) (hb : Lim w D m k us) (hb' : Lim w D' m' k' vs) : Calls Tryd.prog 57 #[.agg #[.slice A n c, .slice A' n' c'], .agg #[.slice D m k, .slice D' m' k']] w fun e w' => e = .returned (.bool (sameB xs us && sameB ys vs)) ∧ Below w.heap.size w w' := by
  have S := (((((Fs.start w).put ha).put ha').put hb).put hb').box (.slice A n c) (.slice A' n' c') |>.box (.slice D m k) (.slice D' m' k')
  simp only [World.size_alloc] at S
  clear ha ha' hb hb'
  go_enter Tryd.func57, Tryd.ntmps57
  go_wp2_with fail
  generalize (w.alloc (.cells #[.slice A n c, .slice A' n' c'] 50)).alloc (.cells #[.slice D m k, .slice D' m' k'] 50) = w0 at *
  refine (same_bel S.lie.2.2.2.1 S.lie.2.1).mono ?_
  rintro e w1 ⟨rfl, B1⟩
  have S := S.next B1
  clear B1
  obtain ⟨⟨b0, b1, -⟩, ⟨a0, a1, -⟩, -⟩ := S.cel
  by_cases q : sameB xs us = true
  · rw [q]
    go_wp2_with fail
    refine (same_bel S.lie.2.2.1 S.lie.1).mono ?_
    rintro e w2 ⟨rfl, B1⟩
    have S := S.next B1
    clear B1 a0 a1 b0 b1
    have Q := Lib.hid q
    clear q
    go_wp2_with fail
    go_ret
    exact ⟨by rw [Q.out, Bool.true_and]; rfl, S.bl⟩
  · have q : sameB xs us = false := by simpa using q
    rw [q]
    have Q := Lib.hid q
    clear q
    go_wp2_with fail
    go_ret
    exact ⟨by rw [Q.out, Bool.false_and]; rfl, S.bl⟩
theorem same3_yes {A A' D D' : Option Addr} {n c n' c' m k m' k' : Nat} {xs ys : List Nat} {w : World} (ha : Lim w A n c xs) (ha' : Lim w A' n' c' ys) (hb : Lim w D m k xs) (hb' : Lim w D' m' k' ys) : Calls Tryd.prog 57 #[.agg #[.slice A n c, .slice A' n' c'], .agg #[.slice D m k, .slice D' m' k']] w fun e w' => e = .returned (.bool true) ∧ Below w.heap.size w w' := by
  have K := same3_any ha ha' hb hb'
  rw [sameB_yes, sameB_yes] at K
  exact K

end Go.Proofs.YtdnikdocfbbkkaaDoor
namespace Go.Proofs.YtdnikdocfbbkkaaDoor
/-- One more than the greatest half. -/
@[irreducible] def H16 : Nat := 65536
theorem H16_eq : H16 = 65536 := by unfold H16; rfl
theorem H16_pos : 0 < H16 := by rw [H16_eq]; decide
theorem H16_sq : H16 ^ 2 = B := by rw [H16_eq, B_eq]
theorem H16_pow (k : Nat) : H16 ^ (2 * k) = B ^ k := by rw [Nat.pow_mul, H16_sq]
/-- The number of halves, the lowest first. -/
def hval : List Nat → Nat
  | [] => 0
  | x :: r => x + H16 * hval r
theorem hval_nil : hval [] = 0 := rfl
theorem hval_cons (x : Nat) (r : List Nat) : hval (x :: r) = x + H16 * hval r := rfl
/-- Halves are below H16. -/
def Ld (xs : List Nat) : Prop := ∀ x ∈ xs, x < 65536
theorem Ld.nil : Ld [] := fun x hx => by cases hx
theorem Ld.cons {x : Nat} {r : List Nat} (h : x < 65536) (k : Ld r) : Ld (x :: r) := fun y hy => by
  rcases List.mem_cons.1 hy with rfl | hy
  · exact h
  · exact k y hy
theorem Ld.append {xs ys : List Nat} (h : Ld xs) (k : Ld ys) : Ld (xs ++ ys) := fun y hy => by
  rcases List.mem_append.1 hy with hy | hy
  · exact h y hy
  · exact k y hy
theorem Ld.at_ {xs : List Nat} (h : Ld xs) (k : Nat) (hk : k < xs.length) : xs[k] < 65536 := h _ (List.getElem_mem hk)
theorem Ld.head {x : Nat} {r : List Nat} (h : Ld (x :: r)) : x < 65536 := h x (by simp)
theorem Ld.tail {x : Nat} {r : List Nat} (h : Ld (x :: r)) : Ld r := fun y hy => h y (by simp [hy])
theorem Ld.drop {xs : List Nat} (h : Ld xs) (k : Nat) : Ld (xs.drop k) := fun y hy => h y (List.mem_of_mem_drop hy)
theorem ld_zeros (n : Nat) : Ld (List.replicate n 0) := fun y hy => by rw [(List.mem_replicate.1 hy).2]; decide
theorem ld_set {xs : List Nat} (h : Ld xs) (i v : Nat) (hv : v < 65536) : Ld (xs.set i v) := fun y hy => by
  rcases List.mem_or_eq_of_mem_set hy with k | k
  · exact h y k
  · rw [k]; exact hv
theorem hval_append (xs ys : List Nat) : hval (xs ++ ys) = hval xs + H16 ^ xs.length * hval ys := by
  induction xs with
  | nil => simp [hval_nil]
  | cons x r ih => rw [List.cons_append, hval_cons, hval_cons, ih, List.length_cons, Nat.pow_succ, Nat.mul_add, Nat.add_assoc, Nat.mul_comm (H16 ^ r.length) H16, Nat.mul_assoc]
theorem hval_snoc (xs : List Nat) (y : Nat) : hval (xs ++ [y]) = hval xs + H16 ^ xs.length * y := by
  rw [hval_append]; simp [hval_cons, hval_nil]
theorem hval_take_succ (xs : List Nat) (k : Nat) (h : k < xs.length) : hval (xs.take (k + 1)) = hval (xs.take k) + H16 ^ k * xs[k] := by
  rw [List.take_succ_eq_append_getElem h, hval_snoc, List.length_take, Nat.min_eq_left (by omega)]
theorem hval_zeros (n : Nat) : hval (List.replicate n 0) = 0 := by
  induction n with
  | zero => rfl
  | succ n ih => rw [List.replicate_succ, hval_cons, ih, Nat.mul_zero]
theorem hval_lt {xs : List Nat} (h : Ld xs) : hval xs < H16 ^ xs.length := by
  induction xs with
  | nil => simp [hval_nil]
  | cons x r ih =>
    have i := ih h.tail
    have e : H16 ^ (x :: r).length = H16 * H16 ^ r.length := by rw [List.length_cons, Nat.pow_succ, Nat.mul_comm]
    have hx := h.head
    rw [← H16_eq] at hx
    rw [hval_cons, e]
    have : H16 * (hval r + 1) ≤ H16 * H16 ^ r.length := Nat.mul_le_mul_left _ i
    rw [Nat.mul_add] at this
    omega
theorem hval_set (ps : List Nat) (k v : Nat) (h : k < ps.length) : hval (ps.set k v) + H16 ^ k * ps[k] = hval ps + H16 ^ k * v := by
  induction ps generalizing k with
  | nil => simp at h
  | cons x r ih =>
    cases k with
    | zero => simp [hval_cons]; omega
    | succ k =>
      have := ih k (by simpa using h)
      simp only [List.set_cons_succ, hval_cons, List.getElem_cons_succ, Nat.pow_succ]
      have e : H16 * (hval (r.set k v) + H16 ^ k * r[k]'(by simpa using h)) = H16 * (hval r + H16 ^ k * v) := by rw [this]
      rw [Nat.mul_add, Nat.mul_add, ← Nat.mul_assoc, ← Nat.mul_assoc, Nat.mul_comm H16 (H16 ^ k)] at e
      omega

/-- The limb that is there, or nought. -/
def lat (xs : List Nat) (k : Nat) : Nat := xs[k]?.getD 0
theorem lat_in {xs : List Nat} {k : Nat} (h : k < xs.length) : lat xs k = xs[k] := by unfold lat; rw [List.getElem?_eq_getElem h]; rfl
theorem lat_out {xs : List Nat} {k : Nat} (h : ¬ k < xs.length) : lat xs k = 0 := by unfold lat; rw [List.getElem?_eq_none (by omega)]; rfl
theorem lat_lt {xs : List Nat} (h : Lo xs) (k : Nat) : lat xs k < 4294967296 := by
  by_cases hk : k < xs.length
  · rw [lat_in hk]; exact h.at_ k hk
  · rw [lat_out hk]; decide
theorem val_take_lat (xs : List Nat) (k : Nat) : val (xs.take (k + 1)) = val (xs.take k) + B ^ k * lat xs k := by
  by_cases hk : k < xs.length
  · rw [lat_in hk]; exact val_take_succ xs k hk
  · rw [lat_out hk, List.take_of_length_le (by omega), List.take_of_length_le (by omega), Nat.mul_zero, Nat.add_zero]
/-- Half i. -/
def hf (xs : List Nat) (i : Nat) : Nat := if i % 2 = 0 then lat xs (i / 2) % 65536 else lat xs (i / 2) / 65536
theorem hf_even (xs : List Nat) (i : Nat) (h : i % 2 = 0) : hf xs i = lat xs (i / 2) % 65536 := by unfold hf; rw [if_pos h]
theorem hf_odd (xs : List Nat) (i : Nat) (h : ¬ i % 2 = 0) : hf xs i = lat xs (i / 2) / 65536 := by unfold hf; rw [if_neg h]
theorem hf_lt {xs : List Nat} (h : Lo xs) (i : Nat) : hf xs i < 65536 := by
  have := lat_lt h (i / 2)
  unfold hf
  split <;> omega
/-- So many halves. -/
def halves (xs : List Nat) : Nat → List Nat
  | 0 => []
  | n + 1 => halves xs n ++ [hf xs n]
theorem halves_succ (xs : List Nat) (n : Nat) : halves xs (n + 1) = halves xs n ++ [hf xs n] := rfl
theorem halves_len (xs : List Nat) (n : Nat) : (halves xs n).length = n := by
  induction n with
  | zero => rfl
  | succ n ih => rw [halves_succ, List.length_append, ih]; rfl
theorem ld_halves {xs : List Nat} (h : Lo xs) (n : Nat) : Ld (halves xs n) := by
  induction n with
  | zero => exact .nil
  | succ n ih => exact ih.append (.cons (hf_lt h n) .nil)
theorem two_halves (P x : Nat) : P * (x % 65536) + P * 65536 * (x / 65536) = P * x := by
  have e : x = x % 65536 + 65536 * (x / 65536) := by omega
  conv => rhs; rw [e, Nat.mul_add, ← Nat.mul_assoc]
theorem halves_val (xs : List Nat) (k : Nat) : hval (halves xs (2 * k)) = val (xs.take k) := by
  induction k with
  | zero => rfl
  | succ k ih =>
    have e : 2 * (k + 1) = 2 * k + 1 + 1 := by omega
    rw [e, halves_succ, halves_succ, hval_snoc, hval_snoc, ih, List.length_append, halves_len, List.length_singleton, hf_even _ _ (by omega), hf_odd _ _ (by omega), show 2 * k / 2 = k by omega, show (2 * k + 1) / 2 = k by omega, val_take_lat, Nat.pow_succ, H16_pow, H16_eq, Nat.add_assoc, two_halves]
theorem halves_whole {xs : List Nat} {k : Nat} (h : xs.length ≤ k) : hval (halves xs (2 * k)) = val xs := by rw [halves_val, List.take_of_length_le h]
/-- Two halves are a limb. -/
theorem hval_two (hs : List Nat) (k : Nat) (h : 2 * k + 1 < hs.length) : hval (hs.take (2 * (k + 1))) = hval (hs.take (2 * k)) + B ^ k * (hs[2 * k] + 65536 * hs[2 * k + 1]) := by
  have e : 2 * (k + 1) = 2 * k + 1 + 1 := by omega
  rw [e, hval_take_succ hs (2 * k + 1) h, hval_take_succ hs (2 * k) (by omega), Nat.pow_succ, H16_pow, H16_eq, Nat.mul_add, Nat.mul_assoc, Nat.add_assoc]
/-- A step of a sum. -/
theorem had_step {P s x y k v c : Nat} (h : v + P * k = s) (e : x + y + k = c) : v + P * (c % 65536) + P * 65536 * (c / 65536) = s + P * x + P * y := by
  have := two_halves P c
  rw [Nat.add_assoc, this, ← e, ← h, Nat.mul_add, Nat.mul_add]
  omega
theorem hsb_limb (x y k : Nat) (hx : x < 65536) (hy : y < 65536) (hk : k ≤ 1) : x + 65536 * (1 - (65536 + x - y - k) / 65536) = (65536 + x - y - k) % 65536 + y + k := by
  omega
theorem hsb_step {P s t v x y k b d : Nat} (h : s + P * k = v + t) (e : x + 65536 * b = d + y + k) : s + P * x + P * 65536 * b = v + P * d + (t + P * y) := by
  have : P * x + P * 65536 * b = P * d + P * y + P * k := by
    rw [Nat.mul_assoc, ← Nat.mul_add, e, Nat.mul_add, Nat.mul_add]
  omega
theorem hpr_step {P V S p x y k T v : Nat} (h : V + P * k = S) (e : v + P * p = V + P * (T % 65536)) (ht : T = p + x * y + k) : v + P * 65536 * (T / 65536) = S + P * (x * y) := by
  have e3 := two_halves P T
  have e4 : P * T = P * p + P * (x * y) + P * k := by rw [ht, Nat.mul_add, Nat.mul_add]
  omega
end Go.Proofs.YtdnikdocfbbkkaaDoor
namespace Go.Proofs.YtdnikdocfbbkkaaDoor
open Go.RowKit
set_option linter.unusedVariables false
set_option linter.unusedSimpArgs false

/-- A half. -/
abbrev hv (x : Nat) : Value := .int .u64 (x : Int)
theorem info_u64 : (Tryd.prog.info? 24).map (fun i => (i.zero, i.size, i.bytes)) = some (some (.int .u64 0), 1, 8) := by kernel_rfl
/-- Block g begins with these halves. -/
structure Hrow (w : World) (g : Nat) (hs : List Nat) (ys : List Value) : Prop where
  blk : w.heap[g]? = some (.cells (hs.map hv ++ ys).toArray 24 (0, 0))
section
variable {w w' : World} {g : Nat} {hs : List Nat} {ys : List Value}
theorem Hrow.lt (h : Hrow w g hs ys) : g < w.heap.size := (Array.getElem?_eq_some_iff.1 h.blk).1
theorem Hrow.cell (h : Hrow w g hs ys) (i : Nat) (hi : i < hs.length) : w.cell? ⟨g, i, none⟩ = some (hv hs[i]) := by
  have := h.blk
  simp [World.cell?, this, List.getElem?_append_left, hi]
theorem Hrow.cell' (h : Hrow w g hs ys) {i x : Nat} (hi : hs[i]? = some x) : w.cell? ⟨g, i, none⟩ = some (hv x) := by
  obtain ⟨a, b⟩ := List.getElem?_eq_some_iff.1 hi
  rw [h.cell i a, b]
theorem Hrow.melt (h : Hrow w g hs ys) (i : Nat) : w.frozen? ⟨g, i, none⟩ = false := by
  have := h.blk
  simp [World.frozen?, this]
theorem Hrow.set_ (h : Hrow w g hs ys) (i : Nat) (hi : i < hs.length) (v : Nat) : Hrow (w.setCell ⟨g, i, none⟩ (hv v)) g (hs.set i v) ys := by
  refine ⟨?_⟩
  have := h.blk
  simp [World.setCell, Array.getElem?_modify, this]
  rw [List.set_append_left _ _ (by simpa using hi)]
theorem Hrow.drew (h : Hrow w g hs ys) : Hrow w.drew g hs ys := ⟨h.blk⟩
theorem Hrow.next (h : Hrow w g hs ys) (hb : Below w.heap.size w w') : Hrow w' g hs ys := ⟨(hb.block g h.lt).trans h.blk⟩
theorem Hrow.turn (h : Hrow w g hs ys) {g' : Nat} (t : Turn w w' g') (hne : g ≠ g') : Hrow w' g hs ys := ⟨(t.block _ hne).trans h.blk⟩
end
/-- The slice at A of length n reads as the halves hs. -/
structure Hl (w : World) (A : Option Addr) (n : Nat) (hs : List Nat) : Prop where
  len : hs.length = n
  at_ : ∀ j (h : j < hs.length), ∃ ad, A = some ad ∧ w.cell? (ad.add j) = some (hv hs[j])
theorem Hrow.hl {w : World} {g n : Nat} {hs : List Nat} {ys : List Value} (h : Hrow w g hs ys) (hn : hs.length = n) : Hl w (some ⟨g, 0, none⟩) n hs :=
  ⟨hn, fun j hj => ⟨_, rfl, by rw [add_lit, Nat.zero_add]; exact h.cell j hj⟩⟩
theorem own_hrow {w : World} {base n : Nat} {v : Value} {hs : List Nat} (h : w.ownsRow base 24 1 v n (hs.map hv)) (hn : 0 < n) : ∃ g c ys, v = .slice (some ⟨g, 0, none⟩) n c ∧ base ≤ g ∧ n ≤ c ∧ c ≤ maxLen ∧ hs.length = n ∧ Hrow w g hs ys := by
  have hl : hs.length = n := by have := h.1; simpa using this
  rcases h.2 with ⟨rfl, rfl⟩ | ⟨g, cap, cur, rfl, h0, hb, h1, h2, h3, h4⟩
  · omega
  · refine ⟨g, cap, cur.toList.drop n, rfl, h0, h1, h2, hl, ⟨?_⟩⟩
    rw [hb]
    have : cur = (hs.map hv ++ cur.toList.drop n).toArray := by
      apply Array.ext'
      rw [Nat.mul_one] at h4
      rw [← h4]
      simp
    rw [← this]
theorem own_base {w : World} {base n : Nat} {e : TypeId} {v : Value} {xs : List Value} (h : w.ownsRow base e 1 v n xs) : ∀ k, v.ownBlock = some k → base ≤ k := by
  intro k hk
  rcases h.2 with ⟨rfl, _⟩ | ⟨g, cap, cur, rfl, h0, _⟩
  · simp [Value.ownBlock] at hk
  · simp [Value.ownBlock] at hk
    omega

/-- What is in the loop of Half. -/
structure Hlf (w : World) (xs : List Nat) (i : Nat) (v : Value) (wr : World) : Prop where
  own : wr.ownsRow w.heap.size 24 1 v i ((halves xs i).map hv)
  bl : Below w.heap.size w wr
theorem Hlf.step {w : World} {xs : List Nat} {i : Nat} {v v2 : Value} {wr w2 : World} {o : Obj} (h : Hlf w xs i v wr) (hown : w2.ownsRow w.heap.size 24 1 v2 (i + 1) ((halves xs i).map hv ++ [hv (hf xs i)])) (hg : (wr.alloc o).grownBy w2 v.ownBlock) : Hlf w xs (i + 1) v2 w2 := by
  refine ⟨?_, ?_⟩
  · rw [halves_succ]; simpa using hown
  · exact (h.bl.alloc h.bl.size o).grown hg (by have := h.bl.size; simp; omega) (own_base h.own)
/-- What Half leaves. -/
def RetH (w : World) (xs : List Nat) (n : Nat) (e : Ending) (w' : World) : Prop := ∃ v, e = .returned v ∧ w'.ownsRow w.heap.size 24 1 v n ((halves xs n).map hv) ∧ Below w.heap.size w w'
theorem half_cast (i : Nat) : (i : Int).tdiv 2 = ((i / 2 : Nat) : Int) := (Int.ofNat_tdiv i 2).symm
theorem rem_cast (i : Nat) : (i : Int).tmod 2 = ((i % 2 : Nat) : Int) := (Int.ofNat_tmod i 2).symm

set_option maxHeartbeats 2000000 in
set_option maxRecDepth 100000 in
theorem half_any {A : Option Addr} {m c n : Nat} {xs : List Nat} {w : World} (h : Lim w A m c xs) (hn : n ≤ 1000000) : Calls Tryd.prog 66 #[.slice A m c, .int .i64 (n : Int)] w fun e w' => RetH w xs n e w' := by
  have S0 : Hlf w xs 0 (.slice none 0 0) w := ⟨World.ownsRow_nil w _ _ _, Below.refl _ _⟩
  obtain ⟨i0, hi, hz0, hz1, hz2⟩ := info_parts info_u64
  have HI := Lib.hid hi; have HZ0 := Lib.hid hz0; have HZ1 := Lib.hid hz1; have HZ2 := Lib.hid hz2
  have H := Lib.hid h
  have HL := Lib.hid h.len
  clear h hi hz0 hz1 hz2
  go_enter Tryd.func66, Tryd.ntmps66
  go_wp2_with fail
  go_loopg [5, 6] n (fun q s5 s6 wr => ∃ i : Nat, i + q = n ∧ s6 = .int .i64 (i : Int) ∧ Hlf w xs i s5 wr)
  case atStart => exact ⟨0, by omega, rfl, S0⟩
  case round =>
    clear S0
    obtain ⟨i, hq, rfl, S⟩ := hrel
    have HQ := Lib.hid hq
    by_cases lt : i < n
    · have il : (i : Int) < n := by omega
      have SH := Lib.hid S
      have hb2 : w.heap.size ≤ wr.heap.size := S.bl.size
      have E1 := half_cast i
      have E2 := rem_cast i
      clear hq S
      by_cases hin : i / 2 < m
      · have hin' : ((i / 2 : Nat) : Int) < m := by omega
        have h00 : (0 : Int) ≤ ((i / 2 : Nat) : Int) := by omega
        have hx : i / 2 < xs.length := by rw [HL.out]; exact hin
        obtain ⟨ad, rfl, c1⟩ := (H.out.next SH.out.bl).at_ (i / 2) hx
        have EL := Lib.hid (lat_in hx)
        have bx := H.out.lo.at_ _ hx
        generalize xs[i / 2] = x at *
        by_cases ev : i % 2 = 0
        · have E3 : Hid (hv (hf xs i) = Value.int IntKind.u64 ((x : Int) % 65536)) := by
            unfold Hid; rw [hf_even _ _ ev, EL.out]; exact congrArg (Value.int .u64) (by omega)
          rw [ev] at E2
          go_wp2_with (at_builtin; refine wpList_append_own _ rfl _ _ 82 rfl w.heap.size 24 i0 (.int .u64 0) 1 8 Tryd.underlying82 HI.out HZ0.out HZ1.out HZ2.out rfl (by decide) _ i ((halves xs i).map hv) rfl (SH.out.own.alloc _) ⟨wr.heap.size, 0, none⟩ 1 1 [hv (hf xs i)] rfl rfl ?qc2 ?qc3 ?qc4 ?qc5 ?qc6 ?_)
          case qc2 => (rw [E3.out]; first | exact cell_one_new wr _ _ | exact fun _ _ h => h)
          case qc3 => first | (intro u hu; rw [List.mem_singleton] at hu; rw [hu]; rfl) | rfl
          case qc4 => unfold maxLen; omega
          case qc5 => omega
          case qc6 => first | omega | (simp; omega)
          intro v2 w2 hown hg _
          have STh := Lib.hid (SH.out.step (v2 := v2) (w2 := w2) hown hg)
          clear hown hg SH
          go_wp2_with fail
          go_roundg (gk - 1)
          case measure => have := HQ.out; omega
          case rel =>
            go_light
            exact ⟨i + 1, by have := HQ.out; omega, by go_num, STh.out⟩
        · have E3 : Hid (hv (hf xs i) = Value.int IntKind.u64 ((x : Int) / 65536)) := by
            unfold Hid; rw [hf_odd _ _ ev, EL.out]; exact congrArg (Value.int .u64) (by omega)
          rw [show i % 2 = 1 by omega] at E2
          go_wp2_with (at_builtin; refine wpList_append_own _ rfl _ _ 82 rfl w.heap.size 24 i0 (.int .u64 0) 1 8 Tryd.underlying82 HI.out HZ0.out HZ1.out HZ2.out rfl (by decide) _ i ((halves xs i).map hv) rfl (SH.out.own.alloc _) ⟨wr.heap.size, 0, none⟩ 1 1 [hv (hf xs i)] rfl rfl ?qc2 ?qc3 ?qc4 ?qc5 ?qc6 ?_)
          case qc2 => (rw [E3.out]; first | exact cell_one_new wr _ _ | exact fun _ _ h => h)
          case qc3 => first | (intro u hu; rw [List.mem_singleton] at hu; rw [hu]; rfl) | rfl
          case qc4 => unfold maxLen; omega
          case qc5 => omega
          case qc6 => first | omega | (simp; omega)
          intro v2 w2 hown hg _
          have STh := Lib.hid (SH.out.step (v2 := v2) (w2 := w2) hown hg)
          clear hown hg SH
          go_wp2_with fail
          go_roundg (gk - 1)
          case measure => have := HQ.out; omega
          case rel =>
            go_light
            exact ⟨i + 1, by have := HQ.out; omega, by go_num, STh.out⟩
      · have hin' : ¬ ((i / 2 : Nat) : Int) < m := by omega
        have hx : ¬ i / 2 < xs.length := by rw [HL.out]; exact hin
        have EL := Lib.hid (lat_out hx)
        by_cases ev : i % 2 = 0
        · have E3 : Hid (hv (hf xs i) = Value.int IntKind.u64 0) := by
            unfold Hid; rw [hf_even _ _ ev, EL.out]; rfl
          rw [ev] at E2
          go_wp2_with (at_builtin; refine wpList_append_own _ rfl _ _ 82 rfl w.heap.size 24 i0 (.int .u64 0) 1 8 Tryd.underlying82 HI.out HZ0.out HZ1.out HZ2.out rfl (by decide) _ i ((halves xs i).map hv) rfl (SH.out.own.alloc _) ⟨wr.heap.size, 0, none⟩ 1 1 [hv (hf xs i)] rfl rfl ?qc2 ?qc3 ?qc4 ?qc5 ?qc6 ?_)
          case qc2 => (rw [E3.out]; first | exact cell_one_new wr _ _ | exact fun _ _ h => h)
          case qc3 => first | (intro u hu; rw [List.mem_singleton] at hu; rw [hu]; rfl) | rfl
          case qc4 => unfold maxLen; omega
          case qc5 => omega
          case qc6 => first | omega | (simp; omega)
          intro v2 w2 hown hg _
          have STh := Lib.hid (SH.out.step (v2 := v2) (w2 := w2) hown hg)
          clear hown hg SH
          go_wp2_with fail
          go_roundg (gk - 1)
          case measure => have := HQ.out; omega
          case rel =>
            go_light
            exact ⟨i + 1, by have := HQ.out; omega, by go_num, STh.out⟩
        · have E3 : Hid (hv (hf xs i) = Value.int IntKind.u64 0) := by
            unfold Hid; rw [hf_odd _ _ ev, EL.out]; rfl
          rw [show i % 2 = 1 by omega] at E2
          go_wp2_with (at_builtin; refine wpList_append_own _ rfl _ _ 82 rfl w.heap.size 24 i0 (.int .u64 0) 1 8 Tryd.underlying82 HI.out HZ0.out HZ1.out HZ2.out rfl (by decide) _ i ((halves xs i).map hv) rfl (SH.out.own.alloc _) ⟨wr.heap.size, 0, none⟩ 1 1 [hv (hf xs i)] rfl rfl ?qc2 ?qc3 ?qc4 ?qc5 ?qc6 ?_)
          case qc2 => (rw [E3.out]; first | exact cell_one_new wr _ _ | exact fun _ _ h => h)
          case qc3 => first | (intro u hu; rw [List.mem_singleton] at hu; rw [hu]; rfl) | rfl
          case qc4 => unfold maxLen; omega
          case qc5 => omega
          case qc6 => first | omega | (simp; omega)
          intro v2 w2 hown hg _
          have STh := Lib.hid (SH.out.step (v2 := v2) (w2 := w2) hown hg)
          clear hown hg SH
          go_wp2_with fail
          go_roundg (gk - 1)
          case measure => have := HQ.out; omega
          case rel =>
            go_light
            exact ⟨i + 1, by have := HQ.out; omega, by go_num, STh.out⟩
    · obtain rfl : n = i := by omega
      have il : ¬ (n : Int) < n := by omega
      have S := Lib.hid S
      clear hq lt
      go_wp2_with fail
      go_ret
      exact ⟨_, rfl, S.out.own, S.out.bl⟩

/-- What is in the first loop of Whole. -/
structure Whl (w : World) (hs : List Nat) (k : Nat) (v : Value) (wr : World) : Prop where
  ps : ∃ ps, ps.length = k ∧ Lo ps ∧ val ps = hval (hs.take (2 * k)) ∧ wr.ownsRow w.heap.size 37 1 v k (ps.map lv)
  bl : Below w.heap.size w wr
theorem Whl.step {w : World} {hs : List Nat} {k : Nat} {v v2 : Value} {wr w2 : World} {o : Obj} {ps : List Nat} (pl : ps.length = k) (plo : Lo ps) (pv : val ps = hval (hs.take (2 * k))) (po : wr.ownsRow w.heap.size 37 1 v k (ps.map lv)) (bl : Below w.heap.size w wr)
    (ld : Ld hs) (hk : 2 * k + 1 < hs.length) (hown : w2.ownsRow w.heap.size 37 1 v2 (k + 1) (ps.map lv ++ [lv (hs[2 * k] + 65536 * hs[2 * k + 1])])) (hg : (wr.alloc o).grownBy w2 v.ownBlock) : Whl w hs (k + 1) v2 w2 := by
  have b1 := ld.at_ (2 * k) (by omega)
  have b2 := ld.at_ (2 * k + 1) hk
  refine ⟨⟨ps ++ [hs[2 * k] + 65536 * hs[2 * k + 1]], by simp [pl], plo.append (.cons (by omega) .nil), ?_, by simpa using hown⟩, ?_⟩
  · rw [val_snoc, pl, pv, hval_two hs k hk]
  · exact (bl.alloc bl.size o).grown hg (by have := bl.size; simp; omega) (own_base po)

set_option maxHeartbeats 2000000 in
set_option maxRecDepth 100000 in
theorem whole_any {A : Option Addr} {n c : Nat} {hs : List Nat} {w : World} (h : Hl w A (2 * n) hs) (ld : Ld hs) (hn : n ≤ 1000000) : Calls Tryd.prog 67 #[.slice A (2 * n) c] w fun e w' => RetN (hval hs) w e w' := by
  have S0 : Whl w hs 0 (.slice none 0 0) w := ⟨⟨[], rfl, .nil, rfl, World.ownsRow_nil w _ _ _⟩, Below.refl _ _⟩
  obtain ⟨i0, hi, hz0, hz1, hz2⟩ := info_parts info_u32
  have HI := Lib.hid hi; have HZ0 := Lib.hid hz0; have HZ1 := Lib.hid hz1; have HZ2 := Lib.hid hz2
  have H := Lib.hid h; have LD := Lib.hid ld
  have HL := Lib.hid h.len
  clear h hi hz0 hz1 hz2 ld
  generalize hN : 2 * n = N at *
  have HN := Lib.hid hN
  have hN2 : N ≤ 2000000 := by omega
  clear hN
  go_enter Tryd.func67, Tryd.ntmps67
  go_wp2_with fail
  go_loopg [3, 4] n (fun q s3 s4 wr => ∃ i k : Nat, k + q = n ∧ s4 = .int .i64 (i : Int) ∧ Hid (i = 2 * k) ∧ Whl w hs k s3 wr)
  case atStart => exact ⟨0, 0, by omega, rfl, rfl, S0⟩
  case round =>
    clear S0
    obtain ⟨i, k, hq, rfl, ei, S⟩ := hrel
    have HQ := Lib.hid hq
    by_cases lt : k < n
    · have i1 : i + 1 < N := by have := HN.out; have := ei.out; omega
      have i1l : i + 1 < hs.length := by rw [HL.out]; exact i1
      have il : (i : Int) < N := by omega
      have il1 : (i : Int) + 1 < N := by omega
      have il0 : (0 : Int) ≤ i := by omega
      have il2 : (0 : Int) ≤ (i : Int) + 1 := by omega
      obtain ⟨ps, pl, plo, pv, po⟩ := S.ps
      have c1 : ∃ ad x, A = some ad ∧ x < 65536 ∧ hs[i]? = some x ∧ wr.cell? (ad.add i) = some (.int .u64 (x : Int)) := by
        obtain ⟨ad, e, hc⟩ := H.out.at_ i (by omega)
        exact ⟨ad, _, e, LD.out.at_ i (by omega), List.getElem?_eq_getElem _, keep_cell S.bl hc⟩
      obtain ⟨ad, x, rfl, bx, ex, c1⟩ := c1
      have c2 : ∃ y, y < 65536 ∧ hs[i + 1]? = some y ∧ wr.cell? ⟨ad.block, ad.off + (i + 1), none⟩ = some (.int .u64 (y : Int)) := by
        obtain ⟨ad, e, hc⟩ := H.out.at_ (i + 1) i1l
        injection e with e
        subst e
        have e1 : ad.add (i + 1) = ⟨ad.block, ad.off + (i + 1), none⟩ := by unfold Addr.add; rw [if_neg (by omega)]
        rw [e1] at hc
        exact ⟨_, LD.out.at_ (i + 1) i1l, List.getElem?_eq_getElem _, keep_cell S.bl hc⟩
      obtain ⟨y, bY, ey, c2⟩ := c2
      have hb2 : w.heap.size ≤ wr.heap.size := S.bl.size
      have KS : Hid (∀ (v2 : Value) (w2 : World) (o : Obj), w2.ownsRow w.heap.size 37 1 v2 (k + 1) (ps.map lv ++ [lv (x + 65536 * y)]) → (wr.alloc o).grownBy w2 (Value.ownBlock u3) → Whl w hs (k + 1) v2 w2) := by
        intro v2 w2 o h1 h2
        have e := ei.out
        subst e
        refine Whl.step pl plo pv po S.bl LD.out i1l ?_ h2
        rw [(List.getElem?_eq_some_iff.1 ex).2, (List.getElem?_eq_some_iff.1 ey).2]
        exact h1
      have PO := Lib.hid po
      have E3 : Hid (lv (x + 65536 * y) = Value.int IntKind.u32 ((x : Int) + 65536 * (y : Int))) := congrArg (Value.int .u32) (by omega)
      have EI : Hid (i + 2 = 2 * (k + 1)) := by unfold Hid; rw [ei.out]; omega
      clear hq S pl plo pv po ex ey ei
      go_wp2_with (at_builtin; refine wpList_append_own _ rfl _ _ 23 rfl w.heap.size 37 i0 (.int .u32 0) 1 4 Tryd.underlying23 HI.out HZ0.out HZ1.out HZ2.out rfl (by decide) _ k (ps.map lv) rfl (PO.out.alloc _) ⟨wr.heap.size, 0, none⟩ 1 1 [lv (x + 65536 * y)] rfl rfl ?qc2 ?qc3 ?qc4 ?qc5 ?qc6 ?_)
      case qc2 => (rw [E3.out]; first | exact cell_one_new wr _ _ | exact fun _ _ h => h)
      case qc3 => first | (intro u hu; rw [List.mem_singleton] at hu; rw [hu]; rfl) | rfl
      case qc4 => unfold maxLen; omega
      case qc5 => omega
      case qc6 => first | omega | (simp; omega)
      intro v2 w2 hown hg _
      have STh := Lib.hid (KS.out v2 w2 _ hown hg)
      clear hown hg
      go_wp2_with fail
      go_roundg (gk - 1)
      case measure => have := HQ.out; omega
      case rel =>
        go_light
        exact ⟨i + 2, k + 1, by have := HQ.out; omega, by go_num, EI, STh.out⟩
    · obtain rfl : n = k := by omega
      have eN : i = N := by rw [ei.out, HN.out]
      have il : ¬ (i : Int) < N := by omega
      obtain ⟨ps, pl, plo, pv, po⟩ := S.ps
      obtain ⟨A2, c2, rfl, L2⟩ := own_lim po plo
      rw [HN.out, List.take_of_length_le (by rw [HL.out]; exact Nat.le_refl _)] at pv
      have PV := Lib.hid pv; have L := Lib.hid L2; have BL := Lib.hid S.bl
      have hc := L2.cap; have ht := L2.top
      clear hq S pl plo pv po L2 HQ lt eN
      go_wp2_with fail
      go_loopg [3] n (fun g s3 wq => g ≤ n ∧ s3 = .slice A2 g c2 ∧ Hid (val (ps.take g) = val ps) ∧ wr = wq)
      case atStart => exact ⟨Nat.le_refl _, rfl, by unfold Hid; rw [List.take_of_length_le (by rw [L.out.len]; exact Nat.le_refl _)], rfl⟩
      case round =>
        obtain ⟨hg, rfl, hvv, rfl⟩ := hrel
        have HT := Lib.hid (L.out.take hg)
        by_cases hz : gk = 0
        · subst hz
          have HV : Hid (limbs (hval hs) = []) := by unfold Hid; rw [← PV.out, ← hvv.out]; simp [val_nil, limbs_zero]
          go_wp2_with fail
          go_ret
          exact ⟨_, 0, _, rfl, by rw [HV.out]; exact Lim.none_ _ _ _ (by omega), BL.out⟩
        · obtain ⟨k, rfl⟩ : ∃ k, gk = k + 1 := ⟨gk - 1, by omega⟩
          obtain ⟨ad, rfl⟩ := L.out.some_ (by omega)
          have hkx : k < ps.length := by rw [L.out.len]; omega
          have hcell := L.out.cell k hkx
          by_cases hx : ps[k] = 0
          · have HV : Hid (val (ps.take k) = val ps) := by
              unfold Hid; rw [← hvv.out, val_take_succ ps k hkx, hx, Nat.mul_zero, Nat.add_zero]
            rw [hx] at hcell
            clear hx hvv HT
            go_wp2_with fail
            go_roundg k
            case measure => omega
            case rel => exact ⟨by omega, rfl, HV, rfl⟩
          · have HV : Hid (limbs (hval hs) = ps.take (k + 1)) := by
              unfold Hid
              rw [← PV.out, ← hvv.out]
              refine limbs_val (L.out.lo.take _) (getLast_ne (x := ps[k]) ?_ hx)
              rw [List.length_take, Nat.min_eq_left (by omega), Nat.add_sub_cancel, List.getElem?_take, if_pos (by omega), List.getElem?_eq_getElem hkx]
            generalize ps[k] = x at *
            have h2 : ((x : Int) == 0) = false := by simpa using hx
            clear hx hvv
            go_wp2_with fail
            go_ret
            exact ⟨_, _, _, rfl, by rw [HV.out]; exact HT.out, BL.out⟩
end Go.Proofs.YtdnikdocfbbkkaaDoor
