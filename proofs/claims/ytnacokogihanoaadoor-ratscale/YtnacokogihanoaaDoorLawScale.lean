/- For every pair of limbs and all limbs the law RatScale answers true: both limbs of a fraction, times one natural, make the same fraction. No condition beyond the row; the tables of unicode/utf8 start as the program lays them (tied). -/
import Derived.Test.YtnacokogihanoaaDoorRG
import Derived.Test.YtnacokogihanoaaDoorWalkZ
import Derived.Test.YtnacokogihanoaaDoorWalkY
namespace Go.Proofs.YtnacokogihanoaaDoor.ratScale
open Go.ChangeShapes Go.WideShapes Go.ChangeAt Go.RowKit
open Go.Proofs.YtnacokogihanoaaDoor
set_option linter.unusedVariables false
set_option linter.unusedSimpArgs false

/-- Behind a region that lays a new fraction: where it lies. -/
def NewR (V : World) (x y : Nat) (s : Value) (wx : World) : Prop := ∃ b A n c B m k, s = .pointer (some ⟨b, 0, none⟩) ∧ Lim wx A n c (limbs x) ∧ Lim wx B m k (limbs y) ∧ Cels [(b, .slice A n c, .slice B m k)] wx ∧ V.heap.size ≤ b ∧ Below V.heap.size V wx
theorem newR_last {V z : World} {x y n c m k : Nat} {A B : Option Addr} (L : Lim z A n c (limbs x)) (L' : Lim z B m k (limbs y)) (hb : Below V.heap.size V z) : NewR V x y (.pointer (some ⟨z.heap.size, 0, none⟩)) (z.alloc (.cells #[.slice A n c, .slice B m k] 50)) :=
  ⟨_, _, _, _, _, _, _, rfl, L.alloc _, L'.alloc _, ((Fs.start z).box _ _).cel, hb.size, below_al hb _⟩
theorem newR_set {V z : World} {x y n c m k b n1 c1 n2 c2 : Nat} {A B A1 A2 : Option Addr} (L : Lim z A n c (limbs x)) (L' : Lim z B m k (limbs y)) (j0 : z.cell? ⟨b, 0, none⟩ = some (.slice A1 n1 c1)) (j1 : z.cell? ⟨b, 1, none⟩ = some (.slice A2 n2 c2)) (j2 : z.frozen? ⟨b, 0, none⟩ = false) (j3 : z.frozen? ⟨b, 1, none⟩ = false) (j4 : b < z.heap.size) (hv : V.heap.size ≤ b) (hb : Below V.heap.size V z) :
    NewR V x y (.pointer (some ⟨b, 0, none⟩)) ((z.setCell ⟨b, 0, none⟩ (.slice A n c)).setCell ⟨b, 1, none⟩ (.slice B m k)) := by
  have s := Fs.set (w := V) (W := z) (p := []) (q := []) (l := [(A, n, c, limbs x), (B, m, k, limbs y)]) ⟨⟨L, L', trivial⟩, ⟨⟨j0, j1, j2, j3, j4⟩, trivial⟩, hb⟩ hv (by simp) (.slice A n c) (.slice B m k)
  exact ⟨_, _, _, _, _, _, _, rfl, s.lie.1, s.lie.2.1, s.cel, hv, s.bl⟩
theorem fsLay {w W wx : World} {cs : List (Nat × Value × Value)} {l : List (Option Addr × Nat × Nat × List Nat)} {A B : Option Addr} {n c m k b : Nat} {xs ys : List Nat} (s : Fs w cs l W) (hb : Below W.heap.size W wx) (h : Lim wx A n c xs) (h' : Lim wx B m k ys) (cc : Cels [(b, .slice A n c, .slice B m k)] wx) : Fs w ((b, .slice A n c, .slice B m k) :: cs) ((B, m, k, ys) :: (A, n, c, xs) :: l) wx :=
  ⟨⟨h', h, s.lie.next hb⟩, ⟨cc.1, s.cel.next hb⟩, below_step s.bl hb⟩
theorem lims_z {z : World} {A : Option Addr} {n c : Nat} {xs : List Nat} (h : Lim z A n c xs) : Lim z.drew A n c xs := h.next (Below.refl _ _).drew
theorem lim64 {W : World} {A : Option Addr} {n c x : Nat} (h : Lim W A n c (limbs x)) : n = ln x := by rw [← h.len, limbs_length]
theorem rmul {W : World} {A A' : Option Addr} {n c n' c' x y : Nat} (h1 : Lim W A n c (limbs x)) (h2 : Lim W A' n' c' (limbs y)) (lx : ln x ≤ 64) (ly : ln y ≤ 64) : Calls Tryd.prog 20 #[.slice A n c, .slice A' n' c'] W fun e w' => RetN (x * y) W e w' := by
  have := refMul_any h1 h2 (by rw [lim64 h1]; omega) (by rw [lim64 h2]; omega)
  rwa [val_limbs, val_limbs] at this
set_option maxHeartbeats 8000000 in
set_option maxRecDepth 100000 in
theorem notfew {A A' D : Option Addr} {n c n' c' m k : Nat} {xs ys us : List Nat} {w : World} (h0 : Lim w A n c xs) (h0' : Lim w A' n' c' ys) (h1 : Lim w D m k us) (f : ¬ ∀ t ∈ ([⟨A, n, c, xs, A', n', c', ys⟩] : List It), t.Few) : Calls Tryd.prog 11 #[.agg #[.slice A n c, .slice A' n' c'], .slice D m k] w fun e w' => e = .returned (.bool true) ∧ Below w.heap.size w w' := by
  have FB := Lib.hid (fewB_no f)
  have S := (((Fs.start w).put h1).put h0).put h0' |>.box (.slice A n c) (.slice A' n' c')
  clear h0 h0' h1 f
  go_enter Tryd.func11, Tryd.ntmps11
  go_upto_region 1 with fail
  generalize w.alloc (.cells #[.slice A n c, .slice A' n' c'] 50) = w0 at *
  obtain ⟨⟨x00, x01, -⟩, -⟩ := S.cel
  go_wp2_with fail
  have L0 : ∀ t ∈ ([⟨A, n, c, xs, A', n', c', ys⟩] : List It), t.At w0 := by
    intro t ht
    simp only [List.mem_cons, List.not_mem_nil, or_false] at ht
    rcases ht with rfl
    · exact ⟨S.lie.2.1, S.lie.1⟩
  have K := few_any (k := 1) (its_new w0 [⟨A, n, c, xs, A', n', c', ys⟩] #[.slice A n c, .slice A' n' c'] rfl L0) rfl (by omega)
  rw [FB.out] at K
  clear L0
  refine K.mono ?_
  clear K
  rintro e w1 ⟨rfl, B1⟩
  have S := (S.alloc (.cells #[.slice A n c, .slice A' n' c'] 50)).next B1
  clear B1
  clear x00 x01
  obtain ⟨⟨x00, x01, -⟩, -⟩ := S.cel
  go_wp2_with fail
  refine (awake3 _).mono ?_
  rintro e y1 ⟨rfl, B1⟩
  have S := S.next B1
  clear B1
  go_wp2_with fail
  go_ret
  exact ⟨rfl, S.bl⟩
set_option maxHeartbeats 8000000 in
set_option maxRecDepth 100000 in
theorem empty {A A' D : Option Addr} {n c n' c' m k : Nat} {p q : Nat} {us : List Nat} {w : World} (h0 : Lim w A n c (limbs p)) (h0' : Lim w A' n' c' (limbs q)) (h1 : Lim w D m k us) (f0 : F6 p q) (z : m = 0) : Calls Tryd.prog 11 #[.agg #[.slice A n c, .slice A' n' c'], .slice D m k] w fun e w' => e = .returned (.bool true) ∧ Below w.heap.size w w' := by
  have FB := Lib.hid (fewB_yes (l := [⟨A, n, c, limbs p, A', n', c', limbs q⟩]) (by
    intro t ht
    simp only [List.mem_cons, List.not_mem_nil, or_false] at ht
    rcases ht with rfl
    · exact few_num h0 h0' f0))
  have i0 : ((m : Int) == 0) = true := by simp; omega
  clear z
  clear f0
  have S := (((Fs.start w).put h1).put h0).put h0' |>.box (.slice A n c) (.slice A' n' c')
  clear h0 h0' h1
  go_enter Tryd.func11, Tryd.ntmps11
  go_upto_region 1 with fail
  generalize w.alloc (.cells #[.slice A n c, .slice A' n' c'] 50) = w0 at *
  obtain ⟨⟨x00, x01, -⟩, -⟩ := S.cel
  go_wp2_with fail
  have L0 : ∀ t ∈ ([⟨A, n, c, limbs p, A', n', c', limbs q⟩] : List It), t.At w0 := by
    intro t ht
    simp only [List.mem_cons, List.not_mem_nil, or_false] at ht
    rcases ht with rfl
    · exact ⟨S.lie.2.1, S.lie.1⟩
  have K := few_any (k := 1) (its_new w0 [⟨A, n, c, limbs p, A', n', c', limbs q⟩] #[.slice A n c, .slice A' n' c'] rfl L0) rfl (by omega)
  rw [FB.out] at K
  clear L0
  refine K.mono ?_
  clear K
  rintro e w1 ⟨rfl, B1⟩
  have S := (S.alloc (.cells #[.slice A n c, .slice A' n' c'] 50)).next B1
  clear B1
  clear x00 x01
  obtain ⟨⟨x00, x01, -⟩, -⟩ := S.cel
  go_wp2_with fail
  refine (awake3 _).mono ?_
  rintro e y1 ⟨rfl, B1⟩
  have S := S.next B1
  clear B1
  go_wp2_with fail
  go_ret
  exact ⟨rfl, S.bl⟩
set_option maxHeartbeats 8000000 in
set_option maxRecDepth 100000 in
theorem long {A A' D : Option Addr} {n c n' c' m k : Nat} {p q : Nat} {us : List Nat} {w : World} (h0 : Lim w A n c (limbs p)) (h0' : Lim w A' n' c' (limbs q)) (h1 : Lim w D m k us) (f0 : F6 p q) (z : 20 < m) : Calls Tryd.prog 11 #[.agg #[.slice A n c, .slice A' n' c'], .slice D m k] w fun e w' => e = .returned (.bool true) ∧ Below w.heap.size w w' := by
  have FB := Lib.hid (fewB_yes (l := [⟨A, n, c, limbs p, A', n', c', limbs q⟩]) (by
    intro t ht
    simp only [List.mem_cons, List.not_mem_nil, or_false] at ht
    rcases ht with rfl
    · exact few_num h0 h0' f0))
  have i0 : ((m : Int) == 0) = false := by simp; omega
  have i1 : (20 : Int) < m := by omega
  clear z
  clear f0
  have S := (((Fs.start w).put h1).put h0).put h0' |>.box (.slice A n c) (.slice A' n' c')
  clear h0 h0' h1
  go_enter Tryd.func11, Tryd.ntmps11
  go_upto_region 1 with fail
  generalize w.alloc (.cells #[.slice A n c, .slice A' n' c'] 50) = w0 at *
  obtain ⟨⟨x00, x01, -⟩, -⟩ := S.cel
  go_wp2_with fail
  have L0 : ∀ t ∈ ([⟨A, n, c, limbs p, A', n', c', limbs q⟩] : List It), t.At w0 := by
    intro t ht
    simp only [List.mem_cons, List.not_mem_nil, or_false] at ht
    rcases ht with rfl
    · exact ⟨S.lie.2.1, S.lie.1⟩
  have K := few_any (k := 1) (its_new w0 [⟨A, n, c, limbs p, A', n', c', limbs q⟩] #[.slice A n c, .slice A' n' c'] rfl L0) rfl (by omega)
  rw [FB.out] at K
  clear L0
  refine K.mono ?_
  clear K
  rintro e w1 ⟨rfl, B1⟩
  have S := (S.alloc (.cells #[.slice A n c, .slice A' n' c'] 50)).next B1
  clear B1
  clear x00 x01
  obtain ⟨⟨x00, x01, -⟩, -⟩ := S.cel
  go_wp2_with fail
  refine (awake3 _).mono ?_
  rintro e y1 ⟨rfl, B1⟩
  have S := S.next B1
  clear B1
  go_wp2_with fail
  go_ret
  exact ⟨rfl, S.bl⟩
set_option maxHeartbeats 8000000 in
set_option maxRecDepth 100000 in
theorem wrong {A A' D : Option Addr} {n c n' c' m k : Nat} {p q : Nat} {us : List Nat} {w : World} (h0 : Lim w A n c (limbs p)) (h0' : Lim w A' n' c' (limbs q)) (h1 : Lim w D m k us) (f0 : F6 p q) (z0 : m ≠ 0) (z1 : m ≤ 20) (z : ¬ Nt us) : Calls Tryd.prog 11 #[.agg #[.slice A n c, .slice A' n' c'], .slice D m k] w fun e w' => e = .returned (.bool true) ∧ Below w.heap.size w w' := by
  have FB := Lib.hid (fewB_yes (l := [⟨A, n, c, limbs p, A', n', c', limbs q⟩]) (by
    intro t ht
    simp only [List.mem_cons, List.not_mem_nil, or_false] at ht
    rcases ht with rfl
    · exact few_num h0 h0' f0))
  have i0 : ((m : Int) == 0) = false := by simp; omega
  have i1 : ¬ (20 : Int) < m := by omega
  have KR := Lib.hid z
  clear z0 z1 z
  clear f0
  have S := (((Fs.start w).put h1).put h0).put h0' |>.box (.slice A n c) (.slice A' n' c')
  clear h0 h0' h1
  go_enter Tryd.func11, Tryd.ntmps11
  go_upto_region 1 with fail
  generalize w.alloc (.cells #[.slice A n c, .slice A' n' c'] 50) = w0 at *
  obtain ⟨⟨x00, x01, -⟩, -⟩ := S.cel
  go_wp2_with fail
  have L0 : ∀ t ∈ ([⟨A, n, c, limbs p, A', n', c', limbs q⟩] : List It), t.At w0 := by
    intro t ht
    simp only [List.mem_cons, List.not_mem_nil, or_false] at ht
    rcases ht with rfl
    · exact ⟨S.lie.2.1, S.lie.1⟩
  have K := few_any (k := 1) (its_new w0 [⟨A, n, c, limbs p, A', n', c', limbs q⟩] #[.slice A n c, .slice A' n' c'] rfl L0) rfl (by omega)
  rw [FB.out] at K
  clear L0
  refine K.mono ?_
  clear K
  rintro e w1 ⟨rfl, B1⟩
  have S := (S.alloc (.cells #[.slice A n c, .slice A' n' c'] 50)).next B1
  clear B1
  clear x00 x01
  obtain ⟨⟨x00, x01, -⟩, -⟩ := S.cel
  go_wp2_with fail
  refine (refRight_no S.lie.2.2.1 KR.out).mono ?_
  rintro e y9 ⟨rfl, rfl⟩
  go_wp2_with fail
  refine (awake3 _).mono ?_
  rintro e y1 ⟨rfl, B1⟩
  have S := S.next B1
  clear B1
  go_wp2_with fail
  go_ret
  exact ⟨rfl, S.bl⟩
set_option maxHeartbeats 8000000 in
set_option maxRecDepth 100000 in
theorem main {A A' D : Option Addr} {n c n' c' m k : Nat} {p q N : Nat} {w : World} (h0 : Lim w A n c (limbs p)) (h0' : Lim w A' n' c' (limbs q)) (h1 : Lim w D m k (limbs N)) (f0 : F6 p q) (z0 : m ≠ 0) (z1 : m ≤ 20) : Calls Tryd.prog 11 #[.agg #[.slice A n c, .slice A' n' c'], .slice D m k] w fun e w' => e = .returned (.bool true) ∧ Below w.heap.size w w' := by
  have FB := Lib.hid (fewB_yes (l := [⟨A, n, c, limbs p, A', n', c', limbs q⟩]) (by
    intro t ht
    simp only [List.mem_cons, List.not_mem_nil, or_false] at ht
    rcases ht with rfl
    · exact few_num h0 h0' f0))
  have i0 : ((m : Int) == 0) = false := by simp; omega
  have i1 : ¬ (20 : Int) < m := by omega
  have lN : ln N ≤ 20 := by have := h1.len; rw [limbs_length] at this; omega
  have n0 : N ≠ 0 := by
    rintro rfl
    have := h1.len; rw [limbs_length, ln_zero] at this; omega
  have l1 : ln (p * N) ≤ 64 := Nat.le_trans (ln_mul f0.lp lN) (by decide)
  have l2 : ln (q * N) ≤ 64 := Nat.le_trans (ln_mul f0.lq lN) (by decide)
  have q0 : q * N ≠ 0 := Nat.mul_ne_zero f0.f.q0 n0
  have lN : ln N ≤ 64 := Nat.le_trans lN (by decide)
  have KM : Hid (∀ (W : World) (A A' : Option Addr) (n c n' c' : Nat), Lim W A n c (limbs (p * N)) → Lim W A' n' c' (limbs (q * N)) → Calls Tryd.prog 47 #[.slice A n c, .slice A' n' c'] W fun e w' => RetA3 (p, q, 0) W e w') := fun W A A' n c n' c' h h' => scale_num f0 n0 ▸ make_yes h h' l1 l2 q0
  have F0 := Lib.hid f0.f; have LN := Lib.hid lN
  clear f0 z0 z1 lN n0 l1 l2 q0
  have S := (((Fs.start w).put h1).put h0).put h0' |>.box (.slice A n c) (.slice A' n' c')
  clear h0 h0' h1
  go_enter Tryd.func11, Tryd.ntmps11
  go_upto_region 1 with fail
  generalize w.alloc (.cells #[.slice A n c, .slice A' n' c'] 50) = w0 at *
  obtain ⟨⟨x00, x01, -⟩, -⟩ := S.cel
  go_wp2_with fail
  have L0 : ∀ t ∈ ([⟨A, n, c, limbs p, A', n', c', limbs q⟩] : List It), t.At w0 := by
    intro t ht
    simp only [List.mem_cons, List.not_mem_nil, or_false] at ht
    rcases ht with rfl
    · exact ⟨S.lie.2.1, S.lie.1⟩
  have K := few_any (k := 1) (its_new w0 [⟨A, n, c, limbs p, A', n', c', limbs q⟩] #[.slice A n c, .slice A' n' c'] rfl L0) rfl (by omega)
  rw [FB.out] at K
  clear L0
  refine K.mono ?_
  clear K
  rintro e w1 ⟨rfl, B1⟩
  have S := (S.alloc (.cells #[.slice A n c, .slice A' n' c'] 50)).next B1
  clear B1
  clear x00 x01
  obtain ⟨⟨x00, x01, -⟩, -⟩ := S.cel
  go_wp2_with fail
  refine (refRight_yes S.lie.2.2.1 LN.out).mono ?_
  rintro e y9 ⟨rfl, rfl⟩
  go_upto_region 3 with fail
  have KA : Hid (∀ W, Below w1.heap.size w1 W → Calls Tryd.prog 20 #[.slice A n c, .slice D m k] W fun e w' => RetN (p * N) W e w') := fun W hW => rmul (S.lie.2.1.next hW) (S.lie.2.2.1.next hW) F0.out.lp LN.out
  have KB : Hid (∀ W, Below w1.heap.size w1 W → Calls Tryd.prog 20 #[.slice A' n' c', .slice D m k] W fun e w' => RetN (q * N) W e w') := fun W hW => rmul (S.lie.1.next hW) (S.lie.2.2.1.next hW) F0.out.lq LN.out
  have SS := Lib.hid S
  have h0 := x00; have h1 := x01
  have hz := SS.out.cel.1.2.2.2.2
  clear x00 x01
  clear S
  go_cut [5, 6] (fun s5 s6 wx => s6 = .int .i64 0 ∧ NewR w1 p q s5 wx)
  case first =>
    go_region_held3 (fun w' => w'.cell? ⟨w.heap.size, 0, none⟩ = some (.slice A n c) ∧ w'.cell? ⟨w.heap.size, 1, none⟩ = some (.slice A' n' c'))
      ((refine ⟨?_, ?_⟩ <;> (repeat (first | with_reducible exact h0 | with_reducible exact h1 | with_reducible refine keep_drew ?_ | with_reducible refine keep_alloc ?_ _ | with_reducible refine keep_set ?_ _ (by simp only [World.size_alloc, World.size_drew]; omega) | with_reducible refine keep_cell (by assumption) ?_))))
      (first
        | (go_at_call 20; (with_reducible refine (KA.out _ ?_).mono ?_); (· repeat (first | with_reducible exact Below.refl _ _ | with_reducible exact (Below.refl _ _).drew | with_reducible refine below_al ?_ _ | with_reducible refine Below.drew ?_ | refine below_step ?_ (by assumption))); rintro e y1 ⟨A1, n1, c1, rfl, L1, B1⟩; have qq := B1.size; (try simp only [World.size_alloc, World.size_drew] at qq); (first | ((first | have kk := newc B1 | have kk := newcd B1); obtain ⟨k0, k1, k2, k3, k4⟩ := kk; (try simp only [World.size_drew] at k0 k1 k2 k3 k4)) | (have k2 := keep_melt B1 k0 k2; have k3 := keep_melt B1 k1 k3; have k0 := keep_cell B1 k0; have k1 := keep_cell B1 k1; have k4 := Nat.lt_of_lt_of_le k4 qq) | skip))
        | (go_at_call 20; (with_reducible refine (KB.out _ ?_).mono ?_); (· repeat (first | with_reducible exact Below.refl _ _ | with_reducible exact (Below.refl _ _).drew | with_reducible refine below_al ?_ _ | with_reducible refine Below.drew ?_ | refine below_step ?_ (by assumption))); rintro e y2 ⟨A2, n2, c2, rfl, L2, B2⟩; have qq := B2.size; (try simp only [World.size_alloc, World.size_drew] at qq); (first | ((first | have kk := newc B2 | have kk := newcd B2); obtain ⟨k0, k1, k2, k3, k4⟩ := kk; (try simp only [World.size_drew] at k0 k1 k2 k3 k4)) | (have k2 := keep_melt B2 k0 k2; have k3 := keep_melt B2 k1 k3; have k0 := keep_cell B2 k0; have k1 := keep_cell B2 k1; have k4 := Nat.lt_of_lt_of_le k4 qq) | skip))
        | (go_at_call 47; refine (KM.out _ _ _ _ _ _ _ ?_ ?_).mono ?_; (· repeat (first | assumption | with_reducible refine Lim.alloc ?_ _ | refine Lim.next ?_ (by assumption))); (· repeat (first | assumption | with_reducible refine Lim.alloc ?_ _ | refine Lim.next ?_ (by assumption))); rintro e y3 ⟨AA, na, ca, AB, nb, cb, rfl, LA, LB, B3⟩; have qq := B3.size; (try simp only [World.size_alloc, World.size_drew] at qq); (first | ((first | have kk := newc B3 | have kk := newcd B3); obtain ⟨k0, k1, k2, k3, k4⟩ := kk; (try simp only [World.size_drew] at k0 k1 k2 k3 k4)) | (have k2 := keep_melt B3 k0 k2; have k3 := keep_melt B3 k1 k3; have k0 := keep_cell B3 k0; have k1 := keep_cell B3 k1; have k4 := Nat.lt_of_lt_of_le k4 qq) | skip)))
    all_goals go_wp2_with fail
    all_goals go_meet
    all_goals go_light
    all_goals refine ⟨rfl, ?_⟩
    all_goals first
      | refine newR_last (by assumption) (by assumption) ?_
      | refine newR_set (by assumption) (by assumption) k0 k1 k2 k3 k4 (by first | omega | (simp only [World.size_alloc, World.size_drew]; omega)) ?_
    all_goals (repeat (first | with_reducible exact Below.refl _ _ | with_reducible exact (Below.refl _ _).drew | with_reducible refine below_al ?_ _ | with_reducible refine Below.drew ?_ | refine below_step ?_ (by assumption)))
  case rest =>
    obtain ⟨rfl, b, JA9, jn9, jc9, JB9, jm9, jk9, rfl, M1, M2, CC, hbb, HB⟩ := hcut
    have S := fsLay SS.out HB M1 M2 CC
    clear SS h0 h1 hz KA KB KM LN M1 M2 CC HB hbb
    obtain ⟨⟨b0, b1, -⟩, ⟨x00, x01, -⟩, -⟩ := S.cel
    go_upto_region 4 with fail
    have SS := Lib.hid S
    have KS := Lib.hid (fun (W : World) (h : Below _ _ W) => same3_yes (S.lie.2.2.2.1.next h) (S.lie.2.2.1.next h) (S.lie.2.1.next h) (S.lie.1.next h))
    have KT := Lib.hid (fun (W : World) (h : Below _ _ W) => ratText_yes (S.lie.2.2.2.1.next h) (S.lie.2.2.1.next h) F0.out)
    have KU := Lib.hid (fun (W : World) (h : Below _ _ W) => ratText_yes (S.lie.2.1.next h) (S.lie.1.next h) F0.out)
    have CC := Lib.hid (fun (W : World) (h : Below _ _ W) => (⟨keep_cell h x00, keep_cell h x01, keep_cell h b0, keep_cell h b1⟩ : W.cell? ⟨w.heap.size, 0, none⟩ = some (.slice A n c) ∧ W.cell? ⟨w.heap.size, 1, none⟩ = some (.slice A' n' c') ∧ W.cell? ⟨b, 0, none⟩ = some (.slice JA9 jn9 jc9) ∧ W.cell? ⟨b, 1, none⟩ = some (.slice JB9 jm9 jk9)))
    clear S x00 x01 b0 b1
    go_region_held3 (fun W => W.cell? ⟨w.heap.size, 0, none⟩ = some (.slice A n c) ∧ W.cell? ⟨w.heap.size, 1, none⟩ = some (.slice A' n' c') ∧ W.cell? ⟨b, 0, none⟩ = some (.slice JA9 jn9 jc9) ∧ W.cell? ⟨b, 1, none⟩ = some (.slice JB9 jm9 jk9))
      ((refine CC.out _ ?_; repeat (first | with_reducible exact Below.refl _ _ | with_reducible exact (Below.refl _ _).drew | refine below_step ?_ (by assumption))))
      (first
        | (go_at_call 51; (with_reducible refine (KS.out _ ?_).mono ?_); (· repeat (first | with_reducible exact Below.refl _ _ | with_reducible exact (Below.refl _ _).drew | with_reducible refine below_al ?_ _ | with_reducible refine Below.drew ?_ | refine below_step ?_ (by assumption))); rintro e r1 ⟨rfl, C1⟩)
        | (go_at_call 43; (with_reducible refine (KT.out _ ?_).mono ?_); (· repeat (first | with_reducible exact Below.refl _ _ | with_reducible exact (Below.refl _ _).drew | with_reducible refine below_al ?_ _ | with_reducible refine Below.drew ?_ | refine below_step ?_ (by assumption))); rintro e r2 ⟨rfl, C2⟩)
        | (go_at_call 43; (with_reducible refine (KU.out _ ?_).mono ?_); (· repeat (first | with_reducible exact Below.refl _ _ | with_reducible exact (Below.refl _ _).drew | with_reducible refine below_al ?_ _ | with_reducible refine Below.drew ?_ | refine below_step ?_ (by assumption))); rintro e r3 ⟨rfl, C3⟩)
        | (go_at_call 34; refine (awake3 _).mono ?_; rintro e r4 ⟨rfl, C4⟩))
    all_goals go_wp2_with fail
    all_goals go_ret
    all_goals exact ⟨rfl, ((((SS.out.drew.next C1).next C2).next C3).next C4).bl⟩
theorem walk {A A' D : Option Addr} {n c n' c' m k : Nat} {xs ys us : List Nat} {w : World} (h0 : Lim w A n c xs) (h0' : Lim w A' n' c' ys) (h1 : Lim w D m k us) : Calls Tryd.prog 11 #[.agg #[.slice A n c, .slice A' n' c'], .slice D m k] w fun e w' => e = .returned (.bool true) ∧ Below w.heap.size w w' := by
  by_cases f : ∀ t ∈ ([⟨A, n, c, xs, A', n', c', ys⟩] : List It), t.Few
  · have g0 := f ⟨A, n, c, xs, A', n', c', ys⟩ (by simp)
    obtain ⟨f0, e0, e0'⟩ := num_few h0 h0' g0
    by_cases z0 : m = 0
    · exact empty (e0 ▸ h0) (e0' ▸ h0') h1 f0 z0
    · by_cases z1 : m ≤ 20
      · by_cases z : Nt us
        · exact main (e0 ▸ h0) (e0' ▸ h0') (nt_lim h1 z).1 f0 z0 z1
        · exact wrong (e0 ▸ h0) (e0' ▸ h0') h1 f0 z0 z1 z
      · exact long (e0 ▸ h0) (e0' ▸ h0') h1 f0 (Nat.lt_of_not_le z1)
  · exact notfew h0 h0' h1 f

set_option maxRecDepth 100000 in
theorem lifted (os : Os) (started : os.Started) (H : Type) (enc : TypeId × Value → H) :
    ReturnsInHanded {} Tryd.checked os 11 .any (fun w args => (Rows.ratScaleSpec.pre enc Tryd.prog Tryd.f11 Rows.ratScaleRow.domain false w args ∧ laidMetH Tryd.prog Rows.ratScaleRow.laid w) ∧ sizedMet enc Tryd.prog Tryd.f11 (OpenSpec.ofChange Rows.ratScaleSpec) false w args)
      (Rows.ratScaleSpec.post enc Tryd.prog Tryd.f11 false true false false) := by
  refine returnsInHanded_of_change_and (C := Tryd.checked) (X := fun w _ => laidMetH Tryd.prog Rows.ratScaleRow.laid w) (fun _ _ _ hh h => h.of_heap hh) own started (by kernel_rfl) Tryd.func11
    (ChangeSpec.witness_shaped (enc := enc) (C := Tryd.checked) (os := os) (X := fun w _ => laidMetH Tryd.prog Rows.ratScaleRow.laid w) false (World.laidAll Tryd.prog os Rows.ratScaleRow.laid) #[.agg #[.slice none 0 0, .slice none 0 0], .slice none 0 0] 8 (World.laidAll_os _ _ _)
      (World.shaped_of_ZipB (by kernel_rfl) (by kernel_rfl)) (by kernel_rfl) (by kernel_rfl) (by kernel_rfl)
      (by rw [MakeChecks.laidMetH_plain _ _ _ (by kernel_rfl)]; exact laidMet_laidAll _ (by kernel_rfl) (by kernel_rfl))) ?_
  intro W base args ds gs before hval0 hW _ _ _ _
  have hval : ∀ (j : Nat) t v, Tryd.f11.params[j]? = some t → args[j]? = some v → Value.okWide Tryd.prog W .any base t v := hval0
  have hW' := hW
  obtain ⟨p, q, hA0, hV, rfl, _, _⟩ := hW
  have hA : DataW.TrodAll enc Tryd.prog W 0 (fun _ => true) true Tryd.f11.params.toList args.toList ds p := hA0
  rw [Tryd.params11] at hA hval
  obtain ⟨v0, v1, d0, d1, p0, p1, rfl, rfl, rfl, h0t, h1t⟩ := trodAll_two hA
  obtain ⟨rfl, rfl⟩ := trodVars_none hV
  obtain ⟨⟨A, n, c, xs, A', n', c', ys⟩, rfl, h0, h0'⟩ := open_rat (hval 0 50 v0 rfl rfl) h0t
  obtain ⟨B1, b1, c1, xs1, rfl, h1⟩ := open_nat (hval 1 23 v1 rfl rfl) h1t
  clear hA0 hval0
  simp only [List.append_nil] at hW'
  have hlt : ∀ x ∈ p0 ++ p1, x.block < W.heap.size := fun x hx => by simpa using hW'.lt x (by simpa using hx)
  refine (walk h0 h0' h1).mono fun e W' ⟨he, hbl⟩ => ?_
  subst he
  refine ⟨_, rfl, post_args hW' (fun _ _ _ => trodAll_mk1 (shut_bool Tryd.underlying4 _)) ?_ (fun _ => rfl) hbl⟩
  have t0 := Below.trod laidOut readable_rat typed_rat h0t hbl (fun x hx => hlt x (List.mem_append_left _ hx))
  have t1 := Below.trod laidOut readable typed h1t hbl (fun x hx => hlt x (List.mem_append_right _ hx))
  exact trodAll_mk2 t0 t1

theorem holds : Rows.RatScaleSaid :=
  OpenClaim.holds_of_wide 11 Tryd.f11 rfl rfl rfl rfl rfl rfl rfl ⟨rfl, rfl, rfl, rfl, rfl⟩ rfl rfl rfl rfl rfl (by kernel_rfl) Tryd.func11 (by kernel_rfl)
    (of_decide_eq_true (by kernel_rfl)) (by unfold Func.isWrapper; first | (rw [if_pos (by decide +kernel)]; kernel_rfl) | (rw [if_neg (by decide +kernel)]; exact ⟨rfl, rfl⟩))
    (fun os started H enc _ => lifted os started H enc)
theorem proved : Rows.RatScaleCardSaid :=
  Claim7.holds_tied_plain_at .later [] [.data, .pinned] true (true, "7bac054c24a4a5cdd971a304af75554519beee4c5270e6492823ef9c09dcec6f") false
    holds (fun _ h => by cases h) (by kernel_rfl) (fun _ h => by cases h) ratScale_row_tie rfl ⟨rfl, rfl⟩ (by kernel_rfl) rfl
    (fun f fn hf hfn => by
      obtain rfl : f = 11 := Option.some.inj ((show Tryd.prog.funcNamed "samphire/samphirelaw03.RatScale" = some 11 by kernel_rfl).symm.trans hf) |>.symm
      obtain rfl : fn = Tryd.f11 := (Option.some.inj (Tryd.func11.symm.trans hfn)).symm
      exact ⟨by kernel_rfl, fun j t ht => by
        rw [Tryd.params11] at ht
        rcases j with _ | _ | j
        · obtain rfl : t = 50 := by simpa using ht.symm
          exact (show Tryd.prog.wantsStandIn 50 = false by kernel_rfl)
        · obtain rfl : t = 23 := by simpa using ht.symm
          exact (show Tryd.prog.wantsStandIn 23 = false by kernel_rfl)
        · simp at ht⟩)
    (by kernel_rfl)
#print axioms proved
end Go.Proofs.YtnacokogihanoaaDoor.ratScale
