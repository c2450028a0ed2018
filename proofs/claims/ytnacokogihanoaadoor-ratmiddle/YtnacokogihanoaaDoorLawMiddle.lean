/- For every two pairs of limbs the law RatMiddle answers true: half of a sum lies between both, and is as far from either. No condition beyond the row; the tables of unicode/utf8 start as the program lays them (tied). -/
import Derived.Test.YtnacokogihanoaaDoorRG
namespace Go.Proofs.YtnacokogihanoaaDoor.ratMiddle
open Go.ChangeShapes Go.WideShapes Go.ChangeAt Go.RowKit
open Go.Proofs.YtnacokogihanoaaDoor
set_option linter.unusedVariables false
set_option linter.unusedSimpArgs false

/-- Behind a region that lays a new fraction: where it lies. -/
def NewR (V : World) (x y : Nat) (s : Value) (wx : World) : Prop := ∃ b A n c B m k, s = .pointer (some ⟨b, 0, none⟩) ∧ Lim wx A n c (limbs x) ∧ Lim wx B m k (limbs y) ∧ Cels [(b, .slice A n c, .slice B m k)] wx ∧ V.heap.size ≤ b ∧ Below V.heap.size V wx
theorem newR_last {V z : World} {x y n c m k : Nat} {A B : Option Addr} (L : Lim z A n c (limbs x)) (L' : Lim z B m k (limbs y)) (hb : Below V.heap.size V z) : NewR V x y (.pointer (some ⟨z.heap.size, 0, none⟩)) (z.alloc (.cells #[.slice A n c, .slice B m k] 50)) :=
  ⟨_, _, _, _, _, _, _, rfl, L.alloc _, L'.alloc _, ((Fs.start z).box _ _).cel, hb.size, below_al hb _⟩
theorem newR_set {V z : World} {x y n c m k b n1 c1 n2 c2 : Nat} {A B A1 A2 : Option Addr} (L : Lim z A n c (limbs x)) (L' : Lim z B m k (limbs y)) (j0 : z.cell? ⟨b, 0, none⟩ = some (.slice A1 n1 c1)) (j1 : z.cell? ⟨b, 1, none⟩ = some (.slice A2 n2 c2)) (j2 : z.frozen? ⟨b, 0, none⟩ = false) (j3 : z.frozen? ⟨b, 1, none⟩ = false) (j4 : b < z.heap.size) (hv : V.heap.size ≤ b) (hb : Below V.heap.size V z) :
    NewR V x y (.pointer (some ⟨b, 0, none⟩)) ((z.setCell ⟨b, 0, none⟩ (.slice A n c)).setCell ⟨b, 1, none⟩ (.slice B m k)) := by
  have s := Fs.set (w := V) (W := z) (p := []) (q := []) (l := [(A, n, c, limbs x), (B, m, k, limbs y)]) ⟨⟨L, L', trivial⟩, ⟨⟨j0, j1, j2, j3, j4⟩, trivial⟩, hb⟩ hv (by simp) (.slice A n c) (.slice B m k)
  exact ⟨_, _, _, _, _, _, _, rfl, s.lie.1, s.lie.2.1, s.cel, hv, s.bl⟩
theorem fsLay {w W wx : World} {cs : List (Nat × Value × Value)} {l : List (Option Addr × Nat × Nat × List Nat)} {A B : Option Addr} {n c m k b : Nat} {xs ys : List Nat} (s : Fs w cs l W) (hb : Below W.heap.size W wx) (h : Lim wx A n c xs) (h' : Lim wx B m k ys) (cc : Cels [(b, .slice A n c, .slice B m k)] wx) : Fs w ((b, .slice A n c, .slice B m k) :: cs) ((B, m, k, ys) :: (A, n, c, xs) :: l) wx :=
  ⟨⟨h', h, s.lie.next hb⟩, ⟨cc.1, s.cel.next hb⟩, below_step s.bl hb⟩
theorem f21 : Fq 2 1 := ⟨lt64 (by decide), lt64 (by decide), by decide, by decide⟩
theorem lims_z {z : World} {A : Option Addr} {n c : Nat} {xs : List Nat} (h : Lim z A n c xs) : Lim z.drew A n c xs := h.next (Below.refl _ _).drew
set_option maxHeartbeats 8000000 in
set_option maxRecDepth 100000 in
theorem notfew {A A' D D' : Option Addr} {n c n' c' m k m' k' : Nat} {xs ys us vs : List Nat} {w : World} (h0 : Lim w A n c xs) (h0' : Lim w A' n' c' ys) (h1 : Lim w D m k us) (h1' : Lim w D' m' k' vs) (f : ¬ ∀ t ∈ ([⟨A, n, c, xs, A', n', c', ys⟩, ⟨D, m, k, us, D', m', k', vs⟩] : List It), t.Few) : Calls Tryd.prog 10 #[.agg #[.slice A n c, .slice A' n' c'], .agg #[.slice D m k, .slice D' m' k']] w fun e w' => e = .returned (.bool true) ∧ Below w.heap.size w w' := by
  have FB := Lib.hid (fewB_no f)
  have S := (((((Fs.start w).put h0).put h0').put h1).put h1') |>.box (.slice A n c) (.slice A' n' c') |>.box (.slice D m k) (.slice D' m' k')
  simp only [World.size_alloc] at S
  clear h0 h0' h1 h1' f
  go_enter Tryd.func10, Tryd.ntmps10
  go_upto_region 1 with fail
  generalize (w.alloc (.cells #[.slice A n c, .slice A' n' c'] 50)).alloc (.cells #[.slice D m k, .slice D' m' k'] 50) = w0 at *
  obtain ⟨⟨x10, x11, -⟩, ⟨x00, x01, -⟩, -⟩ := S.cel
  go_wp2_with fail
  have L0 : ∀ t ∈ ([⟨A, n, c, xs, A', n', c', ys⟩, ⟨D, m, k, us, D', m', k', vs⟩] : List It), t.At w0 := by
    intro t ht
    simp only [List.mem_cons, List.not_mem_nil, or_false] at ht
    rcases ht with rfl | rfl
    · exact ⟨S.lie.2.2.2.1, S.lie.2.2.1⟩
    · exact ⟨S.lie.2.1, S.lie.1⟩
  have K := few_any (k := 2) (its_new w0 [⟨A, n, c, xs, A', n', c', ys⟩, ⟨D, m, k, us, D', m', k', vs⟩] #[.slice A n c, .slice A' n' c', .slice D m k, .slice D' m' k'] rfl L0) rfl (by omega)
  rw [FB.out] at K
  clear L0
  refine K.mono ?_
  clear K
  rintro e w1 ⟨rfl, B1⟩
  have S := (S.alloc (.cells #[.slice A n c, .slice A' n' c', .slice D m k, .slice D' m' k'] 50)).next B1
  clear B1
  clear x10 x11 x00 x01
  obtain ⟨⟨x10, x11, -⟩, ⟨x00, x01, -⟩, -⟩ := S.cel
  go_wp2_with fail
  refine (awake3 _).mono ?_
  rintro e y1 ⟨rfl, B1⟩
  have S := S.next B1
  clear B1
  go_wp2_with fail
  go_ret
  exact ⟨rfl, S.bl⟩
set_option maxHeartbeats 8000000 in
set_option maxRecDepth 100000 in
theorem main0 {A A' D D' : Option Addr} {n c n' c' m k m' k' : Nat} {p q p' q' : Nat} {w : World} (h0 : Lim w A n c (limbs p)) (h0' : Lim w A' n' c' (limbs q)) (h1 : Lim w D m k (limbs p')) (h1' : Lim w D' m' k' (limbs q')) (f0 : F6 p q) (f1 : F6 p' q') (le : p * q' ≤ p' * q) : Calls Tryd.prog 10 #[.agg #[.slice A n c, .slice A' n' c'], .agg #[.slice D m k, .slice D' m' k']] w fun e w' => e = .returned (.bool true) ∧ Below w.heap.size w w' := by
  have FB := Lib.hid (fewB_yes (l := [⟨A, n, c, limbs p, A', n', c', limbs q⟩, ⟨D, m, k, limbs p', D', m', k', limbs q'⟩]) (by
    intro t ht
    simp only [List.mem_cons, List.not_mem_nil, or_false] at ht
    rcases ht with rfl | rfl
    · exact few_num h0 h0' f0
    · exact few_num h1 h1' f1))
  obtain ⟨s1, s2, m1, m2, x1, x2, E1, fs, E2, fm, E3, E4⟩ := middle_num f0 f1 le
  obtain ⟨C1, C2⟩ := f0.is.cmp f1.is (by decide) (by decide)
  have hx : ¬ (0 : Int) < cmpN p q p' q' := by
    rw [C1]; rcases Nat.lt_or_eq_of_le le with h | h
    · rw [sgn_lt h]; decide
    · rw [h, sgn_eq]; decide
  obtain ⟨x, hx1⟩ : ∃ x, cmpN p q p' q' = x := ⟨_, rfl⟩
  rw [hx1] at hx
  clear C1
  have C1 := hx1
  clear hx1
  have C1 := Lib.hid C1; have C2 := Lib.hid C2; have E1 := Lib.hid E1; have E2 := Lib.hid E2; have E3 := Lib.hid E3; have E4 := Lib.hid E4; have F0 := Lib.hid f0.f; have F1 := Lib.hid f1.f; have FSum := Lib.hid fs; have FM := Lib.hid fm
  clear f0 f1 fs fm le
  have S := (((((Fs.start w).put h0).put h0').put h1).put h1') |>.box (.slice A n c) (.slice A' n' c') |>.box (.slice D m k) (.slice D' m' k')
  simp only [World.size_alloc] at S
  clear h0 h0' h1 h1'
  go_enter Tryd.func10, Tryd.ntmps10
  go_upto_region 1 with fail
  generalize (w.alloc (.cells #[.slice A n c, .slice A' n' c'] 50)).alloc (.cells #[.slice D m k, .slice D' m' k'] 50) = w0 at *
  obtain ⟨⟨x10, x11, -⟩, ⟨x00, x01, -⟩, -⟩ := S.cel
  go_wp2_with fail
  have L0 : ∀ t ∈ ([⟨A, n, c, limbs p, A', n', c', limbs q⟩, ⟨D, m, k, limbs p', D', m', k', limbs q'⟩] : List It), t.At w0 := by
    intro t ht
    simp only [List.mem_cons, List.not_mem_nil, or_false] at ht
    rcases ht with rfl | rfl
    · exact ⟨S.lie.2.2.2.1, S.lie.2.2.1⟩
    · exact ⟨S.lie.2.1, S.lie.1⟩
  have K := few_any (k := 2) (its_new w0 [⟨A, n, c, limbs p, A', n', c', limbs q⟩, ⟨D, m, k, limbs p', D', m', k', limbs q'⟩] #[.slice A n c, .slice A' n' c', .slice D m k, .slice D' m' k'] rfl L0) rfl (by omega)
  rw [FB.out] at K
  clear L0
  refine K.mono ?_
  clear K
  rintro e w1 ⟨rfl, B1⟩
  have S := (S.alloc (.cells #[.slice A n c, .slice A' n' c', .slice D m k, .slice D' m' k'] 50)).next B1
  clear B1
  clear x10 x11 x00 x01
  obtain ⟨⟨x10, x11, -⟩, ⟨x00, x01, -⟩, -⟩ := S.cel
  go_wp2_with fail
  have K := ratCmp_any S.lie.2.2.2.1 S.lie.2.2.1 S.lie.2.1 S.lie.1 F0.out F1.out
  rw [C1.out, C2.out] at K
  refine K.mono ?_
  clear K
  clear x10 x11 x00 x01
  rintro e y1 ⟨rfl, B1⟩
  have S := S.next B1
  clear B1 C1 C2
  obtain ⟨⟨x10, x11, -⟩, ⟨x00, x01, -⟩, -⟩ := S.cel
  go_upto_region 6 with fail
  go_wp2_with fail
  have K := ratAdd_any S.lie.2.2.2.1 S.lie.2.2.1 S.lie.2.1 S.lie.1 F0.out F1.out
  rw [E1.out] at K
  refine K.mono ?_
  clear K
  clear x10 x11 x00 x01
  rintro e y2 ⟨JA2, jn2, jc2, JB2, jm2, jk2, rfl, M1, M2, B1⟩
  have S := ((S.next B1).put M1).put M2
  clear M1 M2 B1
  have S := S.box (.slice JA2 jn2 jc2) (.slice JB2 jm2 jk2)
  generalize hv2 : y2.alloc (.cells #[.slice JA2 jn2 jc2, .slice JB2 jm2 jk2] 50) = v2 at *
  obtain ⟨⟨s0, s1, -⟩, ⟨x10, x11, -⟩, ⟨x00, x01, -⟩, -⟩ := S.cel
  go_upto_region 7 with fail
  clear hv2
  generalize y2.heap.size = z2 at *
  have LH1 := Lib.hid S.lie.2.1; have LH2 := Lib.hid S.lie.1
  have SS := Lib.hid S
  have h0 := s0; have h1 := s1
  have hz := SS.out.cel.1.2.2.2.2
  clear s0 s1 x10 x11 x00 x01
  clear S
  have KW : Hid (∀ W, Calls Tryd.prog 48 #[.int .u64 2] W fun e w' => RetR 2 1 W e w') := fun W => whole_r 2 (by decide) W
  go_cut [9, 10] (fun s9 s10 wx => s10 = .int .i64 0 ∧ NewR v2 m1 m2 s9 wx)
  case first =>
    go_region_held3 (fun w' => w'.cell? ⟨z2, 0, none⟩ = some (.slice JA2 jn2 jc2) ∧ w'.cell? ⟨z2, 1, none⟩ = some (.slice JB2 jm2 jk2))
      ((refine ⟨?_, ?_⟩ <;> (repeat (first | with_reducible exact h0 | with_reducible exact h1 | with_reducible refine keep_drew ?_ | with_reducible refine keep_alloc ?_ _ | with_reducible refine keep_set ?_ _ (by simp only [World.size_alloc, World.size_drew]; omega) | with_reducible refine keep_cell (by assumption) ?_))))
      (first
        | (go_at_call 48; refine (KW.out _).mono ?_; rintro e z ⟨A8, n8, c8, A9, n9, c9, rfl, L8, L9, B8⟩; have q8 := B8.size; (try simp only [World.size_alloc, World.size_drew] at q8); (try ((first | have kk := newc B8 | have kk := newcd B8); obtain ⟨k0, k1, k2, k3, k4⟩ := kk; (try simp only [World.size_drew] at k0 k1 k2 k3 k4))))
        | (go_at_call 40; refine (ratDiv_any (LH1.out.next ?_) (LH2.out.next ?_) (by first | assumption | exact Lim.alloc (by assumption) _) (by first | assumption | exact Lim.alloc (by assumption) _) FSum.out f21).mono ?_; (· repeat (first | with_reducible exact Below.refl _ _ | with_reducible exact (Below.refl _ _).drew | with_reducible refine below_al ?_ _ | with_reducible refine Below.drew ?_ | refine below_step ?_ (by assumption))); (· repeat (first | with_reducible exact Below.refl _ _ | with_reducible exact (Below.refl _ _).drew | with_reducible refine below_al ?_ _ | with_reducible refine Below.drew ?_ | refine below_step ?_ (by assumption))); rw [E2.out]; rintro e z2 ⟨AA, na, ca, AB, nb, cb, rfl, LA, LB, B9⟩; have q9 := B9.size; (try simp only [World.size_alloc, World.size_drew] at q9); first | ((first | have jj := newc B9 | have jj := newcd B9); obtain ⟨j0, j1, j2, j3, j4⟩ := jj; (try simp only [World.size_drew] at j0 j1 j2 j3 j4)) | (have j0 := keep_cell B9 k0; have j1 := keep_cell B9 k1; have j2 := keep_melt B9 k0 k2; have j3 := keep_melt B9 k1 k3; have j4 := Nat.lt_of_lt_of_le k4 q9) | skip))
    all_goals go_wp2_with fail
    all_goals go_meet
    all_goals go_light
    all_goals refine ⟨rfl, ?_⟩
    all_goals first
      | refine newR_last (by assumption) (by assumption) ?_
      | refine newR_set (by assumption) (by assumption) j0 j1 j2 j3 j4 (by first | omega | (simp only [World.size_alloc, World.size_drew]; omega)) ?_
    all_goals (repeat (first | with_reducible exact Below.refl _ _ | with_reducible exact (Below.refl _ _).drew | with_reducible refine below_al ?_ _ | with_reducible refine Below.drew ?_ | refine below_step ?_ (by assumption)))
  case rest =>
    obtain ⟨rfl, b, JA9, jn9, jc9, JB9, jm9, jk9, rfl, M1, M2, CC, hbb, HB⟩ := hcut
    have S := fsLay SS.out HB M1 M2 CC
    clear SS LH1 LH2 h0 h1 hz KW M1 M2 CC HB hbb
    obtain ⟨⟨m0, m1, -⟩, ⟨s0, s1, -⟩, ⟨x10, x11, -⟩, ⟨x00, x01, -⟩, -⟩ := S.cel
    go_wp2_with fail
    have K := ratSub_any S.lie.2.1 S.lie.1 S.lie.2.2.2.2.2.2.2.1 S.lie.2.2.2.2.2.2.1 FM.out F0.out
    rw [E3.out] at K
    refine K.mono ?_
    clear K
    clear m0 m1 s0 s1 x10 x11 x00 x01
    rintro e y21 ⟨JA21, jn21, jc21, JB21, jm21, jk21, rfl, M1, M2, B1⟩
    have S := ((S.next B1).put M1).put M2
    clear M1 M2 B1
    have S := S.box (.slice JA21 jn21 jc21) (.slice JB21 jm21 jk21)
    generalize hv21 : y21.alloc (.cells #[.slice JA21 jn21 jc21, .slice JB21 jm21 jk21] 50) = v21 at *
    obtain ⟨⟨x0, x1, -⟩, ⟨m0, m1, -⟩, ⟨s0, s1, -⟩, ⟨x10, x11, -⟩, ⟨x00, x01, -⟩, -⟩ := S.cel
    go_wp2_with fail
    clear hv21
    generalize y21.heap.size = z21 at *
    have K := ratSub_any S.lie.2.2.2.2.2.2.2.1 S.lie.2.2.2.2.2.2.1 S.lie.2.2.2.1 S.lie.2.2.1 F1.out FM.out
    rw [E4.out] at K
    refine K.mono ?_
    clear K
    clear x0 x1 m0 m1 s0 s1 x10 x11 x00 x01
    rintro e y22 ⟨JA22, jn22, jc22, JB22, jm22, jk22, rfl, M1, M2, B1⟩
    have S := ((S.next B1).put M1).put M2
    clear M1 M2 B1
    have S := S.box (.slice JA22 jn22 jc22) (.slice JB22 jm22 jk22)
    generalize hv22 : y22.alloc (.cells #[.slice JA22 jn22 jc22, .slice JB22 jm22 jk22] 50) = v22 at *
    obtain ⟨⟨y0, y1, -⟩, ⟨x0, x1, -⟩, ⟨m0, m1, -⟩, ⟨s0, s1, -⟩, ⟨x10, x11, -⟩, ⟨x00, x01, -⟩, -⟩ := S.cel
    go_wp2_with fail
    clear hv22
    generalize y22.heap.size = z22 at *
    have K := same3_yes S.lie.2.2.2.1 S.lie.2.2.1 S.lie.2.1 S.lie.1
    refine K.mono ?_
    clear K
    clear y0 y1 x0 x1 m0 m1 s0 s1 x10 x11 x00 x01
    rintro e y23 ⟨rfl, B1⟩
    have S := S.next B1
    clear B1
    obtain ⟨⟨y0, y1, -⟩, ⟨x0, x1, -⟩, ⟨m0, m1, -⟩, ⟨s0, s1, -⟩, ⟨x10, x11, -⟩, ⟨x00, x01, -⟩, -⟩ := S.cel
    go_wp2_with fail
    refine (awake3 _).mono ?_
    rintro e y24 ⟨rfl, B1⟩
    have S := S.next B1
    clear B1
    go_wp2_with fail
    go_ret
    exact ⟨rfl, S.bl⟩
set_option maxHeartbeats 8000000 in
set_option maxRecDepth 100000 in
theorem main1 {A A' D D' : Option Addr} {n c n' c' m k m' k' : Nat} {p q p' q' : Nat} {w : World} (h0 : Lim w A n c (limbs p)) (h0' : Lim w A' n' c' (limbs q)) (h1 : Lim w D m k (limbs p')) (h1' : Lim w D' m' k' (limbs q')) (f0 : F6 p q) (f1 : F6 p' q') (le : p' * q < p * q') : Calls Tryd.prog 10 #[.agg #[.slice A n c, .slice A' n' c'], .agg #[.slice D m k, .slice D' m' k']] w fun e w' => e = .returned (.bool true) ∧ Below w.heap.size w w' := by
  have FB := Lib.hid (fewB_yes (l := [⟨A, n, c, limbs p, A', n', c', limbs q⟩, ⟨D, m, k, limbs p', D', m', k', limbs q'⟩]) (by
    intro t ht
    simp only [List.mem_cons, List.not_mem_nil, or_false] at ht
    rcases ht with rfl | rfl
    · exact few_num h0 h0' f0
    · exact few_num h1 h1' f1))
  obtain ⟨s1, s2, m1, m2, x1, x2, E1, fs, E2, fm, E3, E4⟩ := middle_num f1 f0 (Nat.le_of_lt le)
  obtain ⟨C1, C2⟩ := f0.is.cmp f1.is (by decide) (by decide)
  rw [sgn_gt le] at C1
  have C1 := Lib.hid C1; have C2 := Lib.hid C2; have E1 := Lib.hid E1; have E2 := Lib.hid E2; have E3 := Lib.hid E3; have E4 := Lib.hid E4; have F0 := Lib.hid f0.f; have F1 := Lib.hid f1.f; have FSum := Lib.hid fs; have FM := Lib.hid fm
  clear f0 f1 fs fm le
  have S := (((((Fs.start w).put h0).put h0').put h1).put h1') |>.box (.slice A n c) (.slice A' n' c') |>.box (.slice D m k) (.slice D' m' k')
  simp only [World.size_alloc] at S
  clear h0 h0' h1 h1'
  go_enter Tryd.func10, Tryd.ntmps10
  go_upto_region 1 with fail
  generalize (w.alloc (.cells #[.slice A n c, .slice A' n' c'] 50)).alloc (.cells #[.slice D m k, .slice D' m' k'] 50) = w0 at *
  obtain ⟨⟨x10, x11, -⟩, ⟨x00, x01, -⟩, -⟩ := S.cel
  go_wp2_with fail
  have L0 : ∀ t ∈ ([⟨A, n, c, limbs p, A', n', c', limbs q⟩, ⟨D, m, k, limbs p', D', m', k', limbs q'⟩] : List It), t.At w0 := by
    intro t ht
    simp only [List.mem_cons, List.not_mem_nil, or_false] at ht
    rcases ht with rfl | rfl
    · exact ⟨S.lie.2.2.2.1, S.lie.2.2.1⟩
    · exact ⟨S.lie.2.1, S.lie.1⟩
  have K := few_any (k := 2) (its_new w0 [⟨A, n, c, limbs p, A', n', c', limbs q⟩, ⟨D, m, k, limbs p', D', m', k', limbs q'⟩] #[.slice A n c, .slice A' n' c', .slice D m k, .slice D' m' k'] rfl L0) rfl (by omega)
  rw [FB.out] at K
  clear L0
  refine K.mono ?_
  clear K
  rintro e w1 ⟨rfl, B1⟩
  have S := (S.alloc (.cells #[.slice A n c, .slice A' n' c', .slice D m k, .slice D' m' k'] 50)).next B1
  clear B1
  clear x10 x11 x00 x01
  obtain ⟨⟨x10, x11, -⟩, ⟨x00, x01, -⟩, -⟩ := S.cel
  go_wp2_with fail
  have K := ratCmp_any S.lie.2.2.2.1 S.lie.2.2.1 S.lie.2.1 S.lie.1 F0.out F1.out
  rw [C1.out, C2.out] at K
  refine K.mono ?_
  clear K
  clear x10 x11 x00 x01
  rintro e y1 ⟨rfl, B1⟩
  have S := S.next B1
  clear B1 C1 C2
  obtain ⟨⟨x10, x11, x12, x13, x14⟩, ⟨x00, x01, x02, x03, x04⟩, -⟩ := S.cel
  go_upto_region 6 with fail
  have S := Fs.set (p := [(w.heap.size + 1, .slice D m k, .slice D' m' k')]) (q := []) S (by omega) (by simp) (.slice D m k) (.slice D' m' k')
  have S := Fs.set (p := []) S (by omega) (by simp) (.slice A n c) (.slice A' n' c')
  simp only [List.nil_append, List.cons_append] at S
  clear x10 x11 x12 x13 x14 x00 x01 x02 x03 x04
  generalize (((y1.setCell ⟨w.heap.size, 0, none⟩ (.slice D m k)).setCell ⟨w.heap.size, 1, none⟩ (.slice D' m' k')).setCell ⟨w.heap.size + 1, 0, none⟩ (.slice A n c)).setCell ⟨w.heap.size + 1, 1, none⟩ (.slice A' n' c') = y at *
  obtain ⟨⟨x10, x11, -⟩, ⟨x00, x01, -⟩, -⟩ := S.cel
  go_wp2_with fail
  have K := ratAdd_any S.lie.2.1 S.lie.1 S.lie.2.2.2.1 S.lie.2.2.1 F1.out F0.out
  rw [E1.out] at K
  refine K.mono ?_
  clear K
  clear x10 x11 x00 x01
  rintro e y2 ⟨JA2, jn2, jc2, JB2, jm2, jk2, rfl, M1, M2, B1⟩
  have S := ((S.next B1).put M1).put M2
  clear M1 M2 B1
  have S := S.box (.slice JA2 jn2 jc2) (.slice JB2 jm2 jk2)
  generalize hv2 : y2.alloc (.cells #[.slice JA2 jn2 jc2, .slice JB2 jm2 jk2] 50) = v2 at *
  obtain ⟨⟨s0, s1, -⟩, ⟨x10, x11, -⟩, ⟨x00, x01, -⟩, -⟩ := S.cel
  go_upto_region 7 with fail
  clear hv2
  generalize y2.heap.size = z2 at *
  have LH1 := Lib.hid S.lie.2.1; have LH2 := Lib.hid S.lie.1
  have SS := Lib.hid S
  have h0 := s0; have h1 := s1
  have hz := SS.out.cel.1.2.2.2.2
  clear s0 s1 x10 x11 x00 x01
  clear S
  have KW : Hid (∀ W, Calls Tryd.prog 48 #[.int .u64 2] W fun e w' => RetR 2 1 W e w') := fun W => whole_r 2 (by decide) W
  go_cut [9, 10] (fun s9 s10 wx => s10 = .int .i64 0 ∧ NewR v2 m1 m2 s9 wx)
  case first =>
    go_region_held3 (fun w' => w'.cell? ⟨z2, 0, none⟩ = some (.slice JA2 jn2 jc2) ∧ w'.cell? ⟨z2, 1, none⟩ = some (.slice JB2 jm2 jk2))
      ((refine ⟨?_, ?_⟩ <;> (repeat (first | with_reducible exact h0 | with_reducible exact h1 | with_reducible refine keep_drew ?_ | with_reducible refine keep_alloc ?_ _ | with_reducible refine keep_set ?_ _ (by simp only [World.size_alloc, World.size_drew]; omega) | with_reducible refine keep_cell (by assumption) ?_))))
      (first
        | (go_at_call 48; refine (KW.out _).mono ?_; rintro e z ⟨A8, n8, c8, A9, n9, c9, rfl, L8, L9, B8⟩; have q8 := B8.size; (try simp only [World.size_alloc, World.size_drew] at q8); (try ((first | have kk := newc B8 | have kk := newcd B8); obtain ⟨k0, k1, k2, k3, k4⟩ := kk; (try simp only [World.size_drew] at k0 k1 k2 k3 k4))))
        | (go_at_call 40; refine (ratDiv_any (LH1.out.next ?_) (LH2.out.next ?_) (by first | assumption | exact Lim.alloc (by assumption) _) (by first | assumption | exact Lim.alloc (by assumption) _) FSum.out f21).mono ?_; (· repeat (first | with_reducible exact Below.refl _ _ | with_reducible exact (Below.refl _ _).drew | with_reducible refine below_al ?_ _ | with_reducible refine Below.drew ?_ | refine below_step ?_ (by assumption))); (· repeat (first | with_reducible exact Below.refl _ _ | with_reducible exact (Below.refl _ _).drew | with_reducible refine below_al ?_ _ | with_reducible refine Below.drew ?_ | refine below_step ?_ (by assumption))); rw [E2.out]; rintro e z2 ⟨AA, na, ca, AB, nb, cb, rfl, LA, LB, B9⟩; have q9 := B9.size; (try simp only [World.size_alloc, World.size_drew] at q9); first | ((first | have jj := newc B9 | have jj := newcd B9); obtain ⟨j0, j1, j2, j3, j4⟩ := jj; (try simp only [World.size_drew] at j0 j1 j2 j3 j4)) | (have j0 := keep_cell B9 k0; have j1 := keep_cell B9 k1; have j2 := keep_melt B9 k0 k2; have j3 := keep_melt B9 k1 k3; have j4 := Nat.lt_of_lt_of_le k4 q9) | skip))
    all_goals go_wp2_with fail
    all_goals go_meet
    all_goals go_light
    all_goals refine ⟨rfl, ?_⟩
    all_goals first
      | refine newR_last (by assumption) (by assumption) ?_
      | refine newR_set (by assumption) (by assumption) j0 j1 j2 j3 j4 (by first | omega | (simp only [World.size_alloc, World.size_drew]; omega)) ?_
    all_goals (repeat (first | with_reducible exact Below.refl _ _ | with_reducible exact (Below.refl _ _).drew | with_reducible refine below_al ?_ _ | with_reducible refine Below.drew ?_ | refine below_step ?_ (by assumption)))
  case rest =>
    obtain ⟨rfl, b, JA9, jn9, jc9, JB9, jm9, jk9, rfl, M1, M2, CC, hbb, HB⟩ := hcut
    have S := fsLay SS.out HB M1 M2 CC
    clear SS LH1 LH2 h0 h1 hz KW M1 M2 CC HB hbb
    obtain ⟨⟨m0, m1, -⟩, ⟨s0, s1, -⟩, ⟨x10, x11, -⟩, ⟨x00, x01, -⟩, -⟩ := S.cel
    go_wp2_with fail
    have K := ratSub_any S.lie.2.1 S.lie.1 S.lie.2.2.2.2.2.1 S.lie.2.2.2.2.1 FM.out F1.out
    rw [E3.out] at K
    refine K.mono ?_
    clear K
    clear m0 m1 s0 s1 x10 x11 x00 x01
    rintro e y21 ⟨JA21, jn21, jc21, JB21, jm21, jk21, rfl, M1, M2, B1⟩
    have S := ((S.next B1).put M1).put M2
    clear M1 M2 B1
    have S := S.box (.slice JA21 jn21 jc21) (.slice JB21 jm21 jk21)
    generalize hv21 : y21.alloc (.cells #[.slice JA21 jn21 jc21, .slice JB21 jm21 jk21] 50) = v21 at *
    obtain ⟨⟨x0, x1, -⟩, ⟨m0, m1, -⟩, ⟨s0, s1, -⟩, ⟨x10, x11, -⟩, ⟨x00, x01, -⟩, -⟩ := S.cel
    go_wp2_with fail
    clear hv21
    generalize y21.heap.size = z21 at *
    have K := ratSub_any S.lie.2.2.2.2.2.2.2.2.2.1 S.lie.2.2.2.2.2.2.2.2.1 S.lie.2.2.2.1 S.lie.2.2.1 F0.out FM.out
    rw [E4.out] at K
    refine K.mono ?_
    clear K
    clear x0 x1 m0 m1 s0 s1 x10 x11 x00 x01
    rintro e y22 ⟨JA22, jn22, jc22, JB22, jm22, jk22, rfl, M1, M2, B1⟩
    have S := ((S.next B1).put M1).put M2
    clear M1 M2 B1
    have S := S.box (.slice JA22 jn22 jc22) (.slice JB22 jm22 jk22)
    generalize hv22 : y22.alloc (.cells #[.slice JA22 jn22 jc22, .slice JB22 jm22 jk22] 50) = v22 at *
    obtain ⟨⟨y0, y1, -⟩, ⟨x0, x1, -⟩, ⟨m0, m1, -⟩, ⟨s0, s1, -⟩, ⟨x10, x11, -⟩, ⟨x00, x01, -⟩, -⟩ := S.cel
    go_wp2_with fail
    clear hv22
    generalize y22.heap.size = z22 at *
    have K := same3_yes S.lie.2.2.2.1 S.lie.2.2.1 S.lie.2.1 S.lie.1
    refine K.mono ?_
    clear K
    clear y0 y1 x0 x1 m0 m1 s0 s1 x10 x11 x00 x01
    rintro e y23 ⟨rfl, B1⟩
    have S := S.next B1
    clear B1
    obtain ⟨⟨y0, y1, -⟩, ⟨x0, x1, -⟩, ⟨m0, m1, -⟩, ⟨s0, s1, -⟩, ⟨x10, x11, -⟩, ⟨x00, x01, -⟩, -⟩ := S.cel
    go_wp2_with fail
    refine (awake3 _).mono ?_
    rintro e y24 ⟨rfl, B1⟩
    have S := S.next B1
    clear B1
    go_wp2_with fail
    go_ret
    exact ⟨rfl, S.bl⟩
theorem main {A A' D D' : Option Addr} {n c n' c' m k m' k' : Nat} {p q p' q' : Nat} {w : World} (h0 : Lim w A n c (limbs p)) (h0' : Lim w A' n' c' (limbs q)) (h1 : Lim w D m k (limbs p')) (h1' : Lim w D' m' k' (limbs q')) (f0 : F6 p q) (f1 : F6 p' q') : Calls Tryd.prog 10 #[.agg #[.slice A n c, .slice A' n' c'], .agg #[.slice D m k, .slice D' m' k']] w fun e w' => e = .returned (.bool true) ∧ Below w.heap.size w w' := by
  by_cases z : p * q' ≤ p' * q
  · exact main0 h0 h0' h1 h1' f0 f1 z
  · exact main1 h0 h0' h1 h1' f0 f1 (Nat.lt_of_not_le z)
theorem walk {A A' D D' : Option Addr} {n c n' c' m k m' k' : Nat} {xs ys us vs : List Nat} {w : World} (h0 : Lim w A n c xs) (h0' : Lim w A' n' c' ys) (h1 : Lim w D m k us) (h1' : Lim w D' m' k' vs) : Calls Tryd.prog 10 #[.agg #[.slice A n c, .slice A' n' c'], .agg #[.slice D m k, .slice D' m' k']] w fun e w' => e = .returned (.bool true) ∧ Below w.heap.size w w' := by
  by_cases f : ∀ t ∈ ([⟨A, n, c, xs, A', n', c', ys⟩, ⟨D, m, k, us, D', m', k', vs⟩] : List It), t.Few
  · have g0 := f ⟨A, n, c, xs, A', n', c', ys⟩ (by simp)
    obtain ⟨f0, e0, e0'⟩ := num_few h0 h0' g0
    have g1 := f ⟨D, m, k, us, D', m', k', vs⟩ (by simp)
    obtain ⟨f1, e1, e1'⟩ := num_few h1 h1' g1
    exact main (e0 ▸ h0) (e0' ▸ h0') (e1 ▸ h1) (e1' ▸ h1') f0 f1
  · exact notfew h0 h0' h1 h1' f

set_option maxRecDepth 100000 in
theorem lifted (os : Os) (started : os.Started) (H : Type) (enc : TypeId × Value → H) :
    ReturnsInHanded {} Tryd.checked os 10 .any (fun w args => (Rows.ratMiddleSpec.pre enc Tryd.prog Tryd.f10 Rows.ratMiddleRow.domain false w args ∧ laidMetH Tryd.prog Rows.ratMiddleRow.laid w) ∧ sizedMet enc Tryd.prog Tryd.f10 (OpenSpec.ofChange Rows.ratMiddleSpec) false w args)
      (Rows.ratMiddleSpec.post enc Tryd.prog Tryd.f10 false true false false) := by
  refine returnsInHanded_of_change_and (C := Tryd.checked) (X := fun w _ => laidMetH Tryd.prog Rows.ratMiddleRow.laid w) (fun _ _ _ hh h => h.of_heap hh) own started (by kernel_rfl) Tryd.func10
    (ChangeSpec.witness_shaped (enc := enc) (C := Tryd.checked) (os := os) (X := fun w _ => laidMetH Tryd.prog Rows.ratMiddleRow.laid w) false (World.laidAll Tryd.prog os Rows.ratMiddleRow.laid) #[.agg #[.slice none 0 0, .slice none 0 0], .agg #[.slice none 0 0, .slice none 0 0]] 8 (World.laidAll_os _ _ _)
      (World.shaped_of_ZipB (by kernel_rfl) (by kernel_rfl)) (by kernel_rfl) (by kernel_rfl) (by kernel_rfl)
      (by rw [MakeChecks.laidMetH_plain _ _ _ (by kernel_rfl)]; exact laidMet_laidAll _ (by kernel_rfl) (by kernel_rfl))) ?_
  intro W base args ds gs before hval0 hW _ _ _ _
  have hval : ∀ (j : Nat) t v, Tryd.f10.params[j]? = some t → args[j]? = some v → Value.okWide Tryd.prog W .any base t v := hval0
  have hW' := hW
  obtain ⟨p, q, hA0, hV, rfl, _, _⟩ := hW
  have hA : DataW.TrodAll enc Tryd.prog W 0 (fun _ => true) true Tryd.f10.params.toList args.toList ds p := hA0
  rw [Tryd.params10] at hA hval
  obtain ⟨v0, v1, d0, d1, p0, p1, rfl, rfl, rfl, h0t, h1t⟩ := trodAll_two hA
  obtain ⟨rfl, rfl⟩ := trodVars_none hV
  obtain ⟨⟨A, n, c, xs, A', n', c', ys⟩, rfl, h0, h0'⟩ := open_rat (hval 0 50 v0 rfl rfl) h0t
  obtain ⟨⟨D, m, k, us, D', m', k', vs⟩, rfl, h1, h1'⟩ := open_rat (hval 1 50 v1 rfl rfl) h1t
  clear hA0 hval0
  simp only [List.append_nil] at hW'
  have hlt : ∀ x ∈ p0 ++ p1, x.block < W.heap.size := fun x hx => by simpa using hW'.lt x (by simpa using hx)
  refine (walk h0 h0' h1 h1').mono fun e W' ⟨he, hbl⟩ => ?_
  subst he
  refine ⟨_, rfl, post_args hW' (fun _ _ _ => trodAll_mk1 (shut_bool Tryd.underlying4 _)) ?_ (fun _ => rfl) hbl⟩
  have t0 := Below.trod laidOut readable_rat typed_rat h0t hbl (fun x hx => hlt x (List.mem_append_left _ hx))
  have t1 := Below.trod laidOut readable_rat typed_rat h1t hbl (fun x hx => hlt x (List.mem_append_right _ hx))
  exact trodAll_mk2 t0 t1

theorem holds : Rows.RatMiddleSaid :=
  OpenClaim.holds_of_wide 10 Tryd.f10 rfl rfl rfl rfl rfl rfl rfl ⟨rfl, rfl, rfl, rfl, rfl⟩ rfl rfl rfl rfl rfl (by kernel_rfl) Tryd.func10 (by kernel_rfl)
    (of_decide_eq_true (by kernel_rfl)) (by unfold Func.isWrapper; first | (rw [if_pos (by decide +kernel)]; kernel_rfl) | (rw [if_neg (by decide +kernel)]; exact ⟨rfl, rfl⟩))
    (fun os started H enc _ => lifted os started H enc)
theorem proved : Rows.RatMiddleCardSaid :=
  Claim7.holds_tied_plain_at .later [] [.data, .pinned] true (true, "7bac054c24a4a5cdd971a304af75554519beee4c5270e6492823ef9c09dcec6f") false
    holds (fun _ h => by cases h) (by kernel_rfl) (fun _ h => by cases h) ratMiddle_row_tie rfl ⟨rfl, rfl⟩ (by kernel_rfl) rfl
    (fun f fn hf hfn => by
      obtain rfl : f = 10 := Option.some.inj ((show Tryd.prog.funcNamed "samphire/samphirelaw03.RatMiddle" = some 10 by kernel_rfl).symm.trans hf) |>.symm
      obtain rfl : fn = Tryd.f10 := (Option.some.inj (Tryd.func10.symm.trans hfn)).symm
      exact ⟨by kernel_rfl, fun j t ht => by
        rw [Tryd.params10] at ht
        rcases j with _ | _ | j
        · obtain rfl : t = 50 := by simpa using ht.symm
          exact (show Tryd.prog.wantsStandIn 50 = false by kernel_rfl)
        · obtain rfl : t = 50 := by simpa using ht.symm
          exact (show Tryd.prog.wantsStandIn 50 = false by kernel_rfl)
        · simp at ht⟩)
    (by kernel_rfl)
#print axioms proved
end Go.Proofs.YtnacokogihanoaaDoor.ratMiddle
