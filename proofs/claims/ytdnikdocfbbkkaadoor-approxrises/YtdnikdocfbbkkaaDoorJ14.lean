/- The document's answers: the walk of Mul. The document's answers: the walks of Of, Text. The document's answers: the walk of Text. The document's answers for fractions: Small, Right, Reduce, big; told. -/
import Derived.Test.YtdnikdocfbbkkaaDoorJ11
import Derived.Test.YtdnikdocfbbkkaaDoorJ13
import Derived.Laws.IdiomStrings
import Derived.Test.YtdnikdocfbbkkaaDoorJ10
import Derived.Test.YtdnikdocfbbkkaaDoorJ12
namespace Go.Proofs.YtdnikdocfbbkkaaDoor
open Go.RowKit
set_option linter.unusedVariables false
set_option linter.unusedSimpArgs false

/-- A block of noughts, of 64 bits each. -/
@[irreducible] def zrow64 (n : Nat) : Obj := .cells ((List.replicate n 0).map hv).toArray 24
theorem Hrow.zeros (w : World) (n : Nat) : Hrow (w.alloc (zrow64 n)) w.heap.size (List.replicate n 0) [] := by
  unfold zrow64
  refine ⟨?_⟩
  rw [List.append_nil]
  exact heap_alloc_new w _
theorem make_u64 (n : Nat) (hn : n ≤ 1000000000000) (w : World) : (Instr.makeSlice 82 (.int .i64 (n : Int)) (.int .i64 (n : Int))).run Tryd.prog w =
    .ok (.slice (some ⟨w.heap.size, 0, none⟩) n n) (w.alloc (zrow64 n)) := by
  unfold zrow64
  obtain ⟨i, hi, hz, hs, hb⟩ := info_parts info_u64
  have hbytes : (i.bytes : Int) * (n : Int) ≤ 281474976710656 := by rw [hb]; omega
  have hr := run_make (P := Tryd.prog) w 82 24 i (.int .u64 0) Tryd.underlying82 hi hz .i64 .i64 n n (by omega) (by omega) hbytes (by omega)
  simp only [Int.toNat_natCast] at hr
  have e : madeCells (Value.int IntKind.u64 0).cells n = ((List.replicate n 0).map hv).toArray := by
    apply Array.ext'
    rw [show (Value.int IntKind.u64 0).cells = #[.int .u64 0] from rfl, toList_madeCells_one]
    simp
  rw [hr, hs, Nat.mul_one, e]

/-- What is in the loops of Mul. -/
structure Hpr (w : World) (g N : Nat) (X Y : List Nat) (x i j k : Nat) (wr : World) : Prop where
  ps : ∃ ps, ps.length = N ∧ Ld ps ∧ hval ps + H16 ^ (i + j) * k = hval (X.take i) * hval Y + H16 ^ i * x * hval (Y.take j) ∧ (∀ t, i + Y.length ≤ t → t < N → ps[t]? = some 0) ∧ Hrow wr g ps []
  kb : k < 65536
  t : Turn w wr g
section
variable {w : World} {g N : Nat} {X Y : List Nat} {x i j k : Nat} {wr : World}
theorem Hpr.drew (h : Hpr w g N X Y x i j k wr) : Hpr w g N X Y x i j k wr.drew := by
  obtain ⟨ps, a, b, c, d, r⟩ := h.ps
  exact ⟨⟨ps, a, b, c, d, r.drew⟩, h.kb, h.t.drew⟩
theorem Hpr.step (h : Hpr w g N X Y x i j k wr) (hx : x < 65536) (LY : Ld Y) (hj : j < Y.length) (hN : i + Y.length < N) :
    ∃ p : Nat, p < 65536 ∧ wr.cell? ⟨g, i + j, none⟩ = some (.int .u64 (p : Int)) ∧ wr.frozen? ⟨g, i + j, none⟩ = false ∧
      Hpr w g N X Y x i (j + 1) ((p + x * Y[j] + k) / 65536) (wr.setCell ⟨g, i + j, none⟩ (hv ((p + x * Y[j] + k) % 65536))) := by
  obtain ⟨ps, hl, ld, hv_, hz, r⟩ := h.ps
  have hk := h.kb
  have hy := LY.at_ j hj
  have hij : i + j < ps.length := by omega
  have hp := ld.at_ _ hij
  have hxy : x * Y[j] ≤ 65535 * 65535 := Nat.mul_le_mul (by omega) (by omega)
  refine ⟨ps[i + j], hp, r.cell _ hij, r.melt _, ⟨ps.set (i + j) ((ps[i + j] + x * Y[j] + k) % 65536), by simp [hl], ld_set ld _ _ (Nat.mod_lt _ (by decide)), ?_, ?_, r.set_ _ hij _⟩, ?_, h.t.setCell _ _⟩
  · have e := hval_set ps (i + j) ((ps[i + j] + x * Y[j] + k) % 65536) hij
    have := hpr_step hv_ e rfl
    rw [← Nat.add_assoc, Nat.pow_succ, hval_take_succ Y j hj]
    rw [show H16 ^ (i + j) * H16 = H16 ^ (i + j) * 65536 by rw [H16_eq]]
    rw [this, Nat.mul_add, Nat.pow_add, Nat.add_assoc]
    congr 1
    congr 1
    rw [Nat.mul_assoc, Nat.mul_assoc, Nat.mul_left_comm x]
  · intro t h1 h2
    rw [List.getElem?_set_ne (by omega)]
    exact hz t h1 h2
  · generalize x * Y[j] = q at *
    omega
theorem Hpr.turn (h : Hpr w g N X Y x i Y.length k wr) (hi : i < X.length) (hx : X[i] = x) (hN : i + Y.length < N) (x' : Nat) :
    wr.cell? ⟨g, i + Y.length, none⟩ = some (.int .u64 0) ∧ wr.frozen? ⟨g, i + Y.length, none⟩ = false ∧ Hpr w g N X Y x' (i + 1) 0 0 (wr.setCell ⟨g, i + Y.length, none⟩ (hv k)) := by
  obtain ⟨ps, hl, ld, hv_, hz, r⟩ := h.ps
  have hk := h.kb
  have h0 := hz (i + Y.length) (Nat.le_refl _) hN
  have hij : i + Y.length < ps.length := by omega
  have hp : ps[i + Y.length] = 0 := (List.getElem?_eq_some_iff.1 h0).2
  refine ⟨r.cell' h0, r.melt _, ⟨ps.set (i + Y.length) k, by simp [hl], ld_set ld _ _ hk, ?_, ?_, r.set_ _ hij _⟩, by omega, h.t.setCell _ _⟩
  · have e := hval_set ps (i + Y.length) k hij
    rw [hp, Nat.mul_zero, Nat.add_zero] at e
    rw [e, hv_, List.take_of_length_le (Nat.le_refl _), hval_take_succ X i hi, hx, Nat.add_mul, Nat.mul_zero, Nat.add_zero, List.take_zero, hval_nil, Nat.mul_zero, Nat.add_zero]
  · intro t h1 h2
    rw [List.getElem?_set_ne (by omega)]
    exact hz t (by omega) h2
end
theorem hcast_div (x y p k : Nat) : ((p : Int) + (x : Int) * (y : Int) + (k : Int)) / 65536 = (((p + x * y + k) / 65536 : Nat) : Int) := by
  rw [← Int.natCast_mul]; generalize x * y = q; omega
theorem hcast_mod (x y p k : Nat) : ((p : Int) + (x : Int) * (y : Int) + (k : Int)) % 65536 = (((p + x * y + k) % 65536 : Nat) : Int) := by
  rw [← Int.natCast_mul]; generalize x * y = q; omega

set_option maxHeartbeats 4000000 in
set_option maxRecDepth 100000 in
theorem refMul_any {A A' : Option Addr} {n c n' c' : Nat} {xs ys : List Nat} {w : World} (ha : Lim w A n c xs) (hb : Lim w A' n' c' ys) (hn : n ≤ 100000) (hn' : n' ≤ 100000) :
    Calls Tryd.prog 22 #[.slice A n c, .slice A' n' c'] w fun e w' => RetN (val xs * val ys) w e w' := by
  obtain ⟨T, hT⟩ : ∃ T, 2 * n = T := ⟨_, rfl⟩
  obtain ⟨U, hU⟩ : ∃ U, 2 * n' = U := ⟨_, rfl⟩
  have ET := Lib.hid (show 2 * (n : Int) = (T : Int) by omega)
  have EU := Lib.hid (show 2 * (n' : Int) = (U : Int) by omega)
  obtain ⟨N, hN⟩ : ∃ N, T + U + 2 = N := ⟨_, rfl⟩
  have EN := Lib.hid (show (T : Int) + (U : Int) + 2 = (N : Int) by omega)
  have HN2 : Hid (2 * (n + n' + 1) = N) := by unfold Hid; omega
  have hmk := make_u64 N (by omega)
  have KA := Lib.hid (half_any (n := T) ha (by omega))
  have KB := Lib.hid (fun (W : World) (hW : Below w.heap.size w W) => half_any (n := U) (hb.next hW) (by omega))
  have VA : Hid (hval (halves xs T) = val xs) := by unfold Hid; rw [← hT]; exact halves_whole (by rw [ha.len]; omega)
  have VB : Hid (hval (halves ys U) = val ys) := by unfold Hid; rw [← hU]; exact halves_whole (by rw [hb.len]; omega)
  have LX := Lib.hid (ld_halves ha.lo T); have LY := Lib.hid (ld_halves hb.lo U)
  have NX := Lib.hid (halves_len xs T); have NY := Lib.hid (halves_len ys U)
  have hT2 : T ≤ 200000 := by omega
  have hU2 : U ≤ 200000 := by omega
  have HN := Lib.hid hN
  clear ha hb hT hU
  go_enter Tryd.func22, Tryd.ntmps22
  go_wp2_with fail
  rw [ET.out, EU.out]
  refine KA.out.mono ?_
  rintro e w1 ⟨v1, rfl, O1, B1⟩
  obtain ⟨A1, c1, g1, z1, rfl, gb1, _, R1⟩ := own_any O1
  clear O1
  go_wp2_with fail
  refine (KB.out w1 B1).mono ?_
  rintro e w2 ⟨v2, rfl, O2, B2⟩
  obtain ⟨A2, c2, g2, z2, rfl, gb2, _, R2⟩ := own_any O2
  have B12 := below_step B1 B2
  have R1 : Hid (0 < T → A1 = some ⟨g1, 0, none⟩ ∧ g1 < w2.heap.size ∧ Hrow w2 g1 (halves xs T) z1) := fun q => ⟨(R1 q).1, Nat.lt_of_lt_of_le (R1 q).2.1 B2.size, (R1 q).2.2.next B2⟩
  have R2 := Lib.hid R2
  have BB12 := Lib.hid B12
  clear O2 B1 B2 B12 gb1 gb2 KA KB
  generalize halves xs T = X at *
  generalize halves ys U = Y at *
  have hmk2 := hmk w2
  rw [← EN.out] at hmk2
  clear hmk
  go_wp2_with fail
  have hBl : Below w.heap.size w (w2.alloc (zrow64 N)) := BB12.out.alloc BB12.out.size _
  have S0 : Hpr (w2.alloc (zrow64 N)) w2.heap.size N X Y 0 0 0 0 (w2.alloc (zrow64 N)) := by
    refine ⟨⟨List.replicate N 0, by simp, ld_zeros _, by rw [List.take_zero, List.take_zero, hval_nil, Nat.mul_zero, Nat.mul_zero, Nat.zero_mul, hval_zeros], fun t _ h2 => ?_, Hrow.zeros w2 _⟩, by omega, Turn.refl _ _⟩
    rw [List.getElem?_replicate, if_pos h2]
  have R1a : Hid (0 < T → A1 = some ⟨g1, 0, none⟩ ∧ g1 < w2.heap.size ∧ Hrow (w2.alloc (zrow64 N)) g1 X z1) := fun q => ⟨(R1.out q).1, (R1.out q).2.1, (R1.out q).2.2.next ((Below.refl _ _).alloc (Nat.le_refl _) _)⟩
  have R2a : Hid (0 < U → A2 = some ⟨g2, 0, none⟩ ∧ g2 < w2.heap.size ∧ Hrow (w2.alloc (zrow64 N)) g2 Y z2) := fun q => ⟨(R2.out q).1, (R2.out q).2.1, (R2.out q).2.2.next ((Below.refl _ _).alloc (Nat.le_refl _) _)⟩
  have GS := Lib.hid BB12.out.size
  clear R1 R2 BB12 hmk2
  generalize w2.alloc (zrow64 N) = wa at *
  generalize w2.heap.size = g at *
  go_loopg [10] T (fun q s10 wr => ∃ i x : Nat, i + q = T ∧ s10 = .int .i64 (i : Int) ∧ Hpr wa g N X Y x i 0 0 wr)
  case atStart => exact ⟨0, 0, by omega, rfl, S0⟩
  case round =>
    clear S0
    obtain ⟨i, x, hq, rfl, S⟩ := hrel
    have HQ := Lib.hid hq
    by_cases lt : i < T
    · clear hq
      have il : (i : Int) < T := by omega
      have il0 : (0 : Int) ≤ i := by omega
      obtain ⟨rfl, l1, r1⟩ := R1a.out (by omega)
      have ix : i < X.length := by rw [NX.out]; exact lt
      have bx := LX.out.at_ i ix
      have C1 : Hid (∀ W : World, Turn wa W g → W.cell? ⟨g1, i, none⟩ = some (.int .u64 (X[i] : Int))) := fun W t => (r1.turn t (by omega)).cell i ix
      obtain ⟨x1, hx1⟩ : ∃ x1, X[i] = x1 := ⟨_, rfl⟩
      have S1 : Hpr wa g N X Y x1 i 0 0 wr := by
        obtain ⟨ps, p1, p0, p2, p3, p4⟩ := S.ps
        refine ⟨⟨ps, p1, p0, ?_, p3, p4⟩, S.kb, S.t⟩
        rw [List.take_zero, hval_nil, Nat.mul_zero, Nat.add_zero] at p2 ⊢
        exact p2
      have HX1 := Lib.hid hx1
      rw [hx1] at bx C1
      clear S hx1 x r1 l1
      go_wp2_with fail
      go_loopg [11, 12] U (fun q s11 s12 wr => ∃ j k : Nat, j + q = U ∧ s12 = .int .i64 (j : Int) ∧ s11 = .int .u64 (k : Int) ∧ Hpr wa g N X Y x1 i j k wr)
      case atStart => exact ⟨0, 0, by omega, rfl, rfl, S1⟩
      case round =>
        clear S1
        obtain ⟨j, k, hq2, rfl, rfl, S⟩ := hrel
        have HQ2 := Lib.hid hq2
        by_cases lt2 : j < U
        · clear hq2
          have jl : (j : Int) < U := by omega
          have jl0 : (0 : Int) ≤ j := by omega
          have jy : j < Y.length := by rw [NY.out]; exact lt2
          obtain ⟨rfl, l2, r2⟩ := R2a.out (by omega)
          have c1 := C1.out wr S.t
          have c2 : wr.cell? ⟨g2, j, none⟩ = some (.int .u64 (Y[j] : Int)) := (r2.turn S.t (by omega)).cell j jy
          have bY := LY.out.at_ j jy
          obtain ⟨p, bp, c3, f3, ST⟩ := S.drew.step bx LY.out jy (by rw [NY.out]; omega)
          have ST := Lib.hid ST
          generalize Y[j] = y at *
          have bk := S.kb
          have hxy : x1 * y ≤ 65535 * 65535 := Nat.mul_le_mul (by omega) (by omega)
          have exy : ((x1 * y : Nat) : Int) = (x1 : Int) * (y : Int) := Int.natCast_mul _ _
          have hxy1 : (x1 : Int) * (y : Int) ≤ 4294836225 := by omega
          have hxy0 : 0 ≤ (x1 : Int) * (y : Int) := by omega
          have ij1 : (i : Int) + j < N := by omega
          have ij0 : (0 : Int) ≤ (i : Int) + j := by omega
          have c3 : wr.cell? ⟨g, i + j, none⟩ = some (.int .u64 (p : Int)) := c3
          have f3 : wr.frozen? ⟨g, i + j, none⟩ = false := f3
          clear S exy hxy r2 l2
          go_wp2_with fail
          go_region
          all_goals go_wp2_with fail
          all_goals go_roundg (gk - 1)
          case measure => have := HQ2.out; omega
          case rel =>
            go_light
            refine ⟨j + 1, _, by have := HQ2.out; omega, by go_num, congrArg (Value.int .u64) (hcast_div x1 y p k), ?_⟩
            rw [hcast_mod x1 y p k]
            exact ST.out
        · obtain rfl : U = j := by omega
          have jl : ¬ (U : Int) < U := by omega
          have bk := S.kb
          have TT := S
          rw [← NY.out] at TT
          obtain ⟨c3, f3, ST⟩ := TT.turn ix HX1.out (by rw [NY.out]; omega) 0
          rw [NY.out] at c3 f3 ST
          have ST := Lib.hid ST
          have ij1 : (i : Int) + U < N := by omega
          have ij0 : (0 : Int) ≤ (i : Int) + U := by omega
          clear S TT hq2 lt2
          go_wp2_with fail
          go_roundg (T - (i + 1))
          case measure => have := HQ.out; omega
          case rel =>
            go_light
            exact ⟨i + 1, 0, by have := HQ.out; omega, by go_num, ST.out⟩
    · obtain rfl : T = i := by omega
      have il : ¬ (T : Int) < T := by omega
      obtain ⟨ps, p1, p0, p2, p3, R⟩ := S.ps
      rw [Nat.mul_zero, Nat.add_zero, List.take_zero, hval_nil, Nat.mul_zero, Nat.add_zero, List.take_of_length_le (by rw [NX.out]; exact Nat.le_refl _), VA.out, VB.out] at p2
      have T12 := hBl.trans (S.t.below GS.out)
      have KW := Lib.hid (whole_at (c := N) HN2.out (R.hl p1) p0 (by omega))
      rw [p2] at KW
      clear R S p1 p2 p3 p0 hq HQ
      go_wp2_with fail
      refine KW.out.mono ?_
      rintro e w3 ⟨A3, n3, c3, rfl, L3, B3⟩
      go_wp2_with fail
      go_ret
      exact ⟨_, _, _, rfl, L3, below_step T12 B3⟩
end Go.Proofs.YtdnikdocfbbkkaaDoor
namespace Go.Proofs.YtdnikdocfbbkkaaDoor
open Go.RowKit
set_option linter.unusedVariables false
set_option linter.unusedSimpArgs false

theorem four_halves (n : Nat) : hval [n % 65536, n / 65536 % 65536, n / 4294967296 % 65536, n / 281474976710656] = n := by
  simp only [hval_cons, hval_nil]
  rw [H16_eq]
  omega
set_option maxRecDepth 100000 in
theorem refOf_any (n : Nat) (hn : n < 18446744073709551616) (w : World) : Calls Tryd.prog 21 #[.int .u64 (n : Int)] w fun e w' => RetN n w e w' := by
  have LD : Ld [n % 65536, n / 65536 % 65536, n / 4294967296 % 65536, n / 281474976710656] := .cons (by omega) (.cons (by omega) (.cons (by omega) (.cons (by omega) .nil)))
  have HR : Hrow (w.alloc (.cells ([n % 65536, n / 65536 % 65536, n / 4294967296 % 65536, n / 281474976710656].map hv).toArray 24)) w.heap.size [n % 65536, n / 65536 % 65536, n / 4294967296 % 65536, n / 281474976710656] [] := ⟨by rw [List.append_nil]; exact heap_alloc_new w _⟩
  have K := whole_at (c := 4) (n := 2) (T := 4) rfl (HR.hl rfl) LD (by omega)
  rw [four_halves] at K
  have K := Lib.hid K
  have BL := Lib.hid ((Below.refl w.heap.size w).alloc (Nat.le_refl _) (.cells ([n % 65536, n / 65536 % 65536, n / 4294967296 % 65536, n / 281474976710656].map hv).toArray 24))
  clear LD HR
  go_enter Tryd.func21, Tryd.ntmps21
  go_wp2_with fail
  refine K.out.mono ?_
  rintro e w1 ⟨A1, n1, c1, rfl, L1, B1⟩
  go_wp2_with fail
  go_ret
  exact ⟨_, _, _, rfl, L1, below_step BL.out B1⟩
end Go.Proofs.YtdnikdocfbbkkaaDoor
namespace Go.Proofs.YtdnikdocfbbkkaaDoor
open Go.RowKit
set_option linter.unusedVariables false
set_option linter.unusedSimpArgs false

theorem dtext_last {x : Nat} (h : x / 10 = 0) : dtext x = [dig (x % 10)] := by
  have e : x % 10 = x := by omega
  rw [e]
  by_cases hx : x = 0
  · rw [hx, dtext_zero]; rfl
  · rw [dtext_pos hx, tens_pos hx, h, tens_zero, e]; rfl
theorem dtext_step {x : Nat} (h : x / 10 ≠ 0) : dtext x = dtext (x / 10) ++ [dig (x % 10)] := by
  rw [dtext_pos h, dtext_pos (by omega), tens_pos (n := x) (by omega)]
  simp
theorem cat_cons (c : UInt8) (t : List UInt8) : (⟨#[c]⟩ ++ ⟨t.toArray⟩ : ByteArray) = ⟨(c :: t).toArray⟩ := by
  apply ByteArray.ext
  rw [ByteArray.data_append]
  simp
theorem hval_drop (X : List Nat) (k : Nat) (h : k < X.length) : hval (X.drop k) = X[k] + H16 * hval (X.drop (k + 1)) := by
  rw [List.drop_eq_getElem_cons h, hval_cons]
theorem take_set (X ss : List Nat) (i v : Nat) (h : i < X.length) : (X.take (i + 1) ++ ss).set i v = X.take i ++ (v :: ss) := by
  rw [List.take_succ_eq_append_getElem h, List.append_assoc, List.set_append_right _ _ (by simp; omega)]
  simp [Nat.min_eq_left (Nat.le_of_lt h)]
theorem take_at (X ss : List Nat) (i : Nat) (h : i < X.length) : (X.take (i + 1) ++ ss)[i]? = some X[i] := by
  rw [List.getElem?_append_left (by simp; omega), List.getElem?_take, if_pos (by omega), List.getElem?_eq_getElem h]
/-- What is in the inner loop of Text. -/
structure Tdv (w : World) (g : Nat) (X : List Nat) (zs : List Value) (i r : Nat) (wr : World) : Prop where
  ss : ∃ ss, ss.length + i = X.length ∧ Ld ss ∧ hval (X.drop i) = 10 * hval ss + r ∧ (0 < X.length → Hrow wr g (X.take i ++ ss) zs)
  r10 : r < 10
  t : Turn w wr g
section
variable {w : World} {g : Nat} {X : List Nat} {zs : List Value} {i r : Nat} {wr : World}
theorem Tdv.cell (h : Tdv w g X zs (i + 1) r wr) (hx : i < X.length) : wr.cell? ⟨g, i, none⟩ = some (.int .u64 (X[i] : Int)) ∧ wr.frozen? ⟨g, i, none⟩ = false := by
  obtain ⟨ss, a, b, c, q⟩ := h.ss
  exact ⟨(q (by omega)).cell' (take_at X ss i hx), (q (by omega)).melt _⟩
theorem Tdv.step (h : Tdv w g X zs (i + 1) r wr) (hx : i < X.length) (LX : Ld X) : Tdv w g X zs i ((65536 * r + X[i]) % 10) (wr.setCell ⟨g, i, none⟩ (hv ((65536 * r + X[i]) / 10))) := by
  obtain ⟨ss, a, b, c, q⟩ := h.ss
  have bx := LX.at_ i hx
  have br := h.r10
  refine ⟨⟨((65536 * r + X[i]) / 10) :: ss, by simp; omega, .cons (by omega) b, ?_, fun z => ?_⟩, Nat.mod_lt _ (by decide), h.t.setCell _ _⟩
  · rw [hval_drop X i hx, c, hval_cons, H16_eq]; omega
  · have := (q z).set_ i (by simp; omega) ((65536 * r + X[i]) / 10)
    rwa [take_set X ss i _ hx] at this
theorem Tdv.done (h : Tdv w g X zs 0 r wr) : ∃ ss, ss.length = X.length ∧ Ld ss ∧ hval X = 10 * hval ss + r ∧ (0 < X.length → Hrow wr g ss zs) := by
  obtain ⟨ss, a, b, c, q⟩ := h.ss
  exact ⟨ss, by omega, b, by simpa using c, fun z => by simpa using q z⟩
end
theorem u64_quo (r x : Nat) : Value.int IntKind.u64 ((65536 * (r : Int) + (x : Int)) / 10) = hv ((65536 * r + x) / 10) := congrArg (Value.int .u64) (by omega)
theorem u64_rem (r x : Nat) : Value.int IntKind.u64 ((65536 * (r : Int) + (x : Int)) % 10) = hv ((65536 * r + x) % 10) := congrArg (Value.int .u64) (by omega)
theorem conv_byte (W : World) (r : Nat) (hr : r < 10) : (convert 85 9 (.slice (some ⟨W.heap.size, 0, none⟩) 1 1)).run Tryd.prog (W.alloc (.cells #[.int .u8 (48 + (r : Int))] 5)) = .ok (.string ⟨[dig r].toArray⟩) (W.alloc (.cells #[.int .u8 (48 + (r : Int))] 5)) := by
  refine run_convert_bytes_back _ 85 9 5 ⟨W.heap.size, 0, none⟩ _ [dig r] Tryd.underlying85 Tryd.underlying5 Tryd.underlying9 ?_
  intro j hj
  have j0 : j = 0 := by simpa using hj
  subst j0
  have ha : (⟨W.heap.size, 0, none⟩ : Addr).add 0 = ⟨W.heap.size, 0, none⟩ := by unfold Addr.add; rw [if_pos rfl]
  rw [ha]
  have := dig_toNat hr
  simp only [List.getElem_cons_zero]
  rw [this]
  simp [go_sem]

set_option maxHeartbeats 4000000 in
set_option maxRecDepth 100000 in
theorem refText_any {A : Option Addr} {n c a : Nat} {w : World} (ha : Lim w A n c (limbs a)) (la : ln a ≤ 64) : Calls Tryd.prog 17 #[.slice A n c] w fun e w' => e = .returned (.string ⟨(dtext a).toArray⟩) ∧ Below w.heap.size w w' := by
  have N0 := Lib.hid (Ns.mk ha la)
  obtain ⟨K0, hK0, h630⟩ : ∃ K0, K0 = 9 * 70 ∧ a < 10 ^ K0 := ⟨_, rfl, lt_630 la⟩
  have hK1 : K0 ≤ 640 := by omega
  clear hK0
  obtain ⟨D, hD⟩ : ∃ D, dtext a = D := ⟨_, rfl⟩
  have H0 : Hid (a < 10 ^ K0 ∧ dtext a ++ [] = D ∧ ln a ≤ 64) := ⟨h630, by rw [hD]; exact List.append_nil _, la⟩
  clear h630
  rw [hD]
  clear ha la hD
  go_enter Tryd.func17, Tryd.ntmps17
  go_wp2_with fail
  go_loopg [0, 3] a (fun x s0 s3 wr => ∃ (t : List UInt8) (k : Nat), s3 = .string ⟨t.toArray⟩ ∧ t.length + k ≤ 640 ∧ Hid (x < 10 ^ k ∧ dtext x ++ t = D ∧ ln x ≤ 64) ∧ Hid (Ns x s0 wr) ∧ Hid (Below w.heap.size w wr))
  case atStart => exact ⟨[], K0, rfl, by simpa using hK1, H0, N0, Below.refl _ _⟩
  case round =>
    clear H0 N0
    obtain ⟨t, k, rfl, tk, HX, NX, BL⟩ := hrel
    obtain ⟨X, rfl⟩ : ∃ X, X = gk := ⟨gk, rfl⟩
    obtain ⟨A1, n1, c1, rfl, hn1, L1⟩ := NX.out
    obtain ⟨T, hT⟩ : ∃ T, 2 * n1 = T := ⟨_, rfl⟩
    have ET := Lib.hid (show 2 * (n1 : Int) = (T : Int) by omega)
    have KH := Lib.hid (half_any (n := T) L1 (by omega))
    have VA : Hid (hval (halves (limbs X) T) = X) := by unfold Hid; rw [← hT, halves_whole (by rw [L1.len]; exact Nat.le_refl _), val_limbs]
    have LX := Lib.hid (ld_halves L1.lo T)
    have NXl := Lib.hid (halves_len (limbs X) T)
    have HT := Lib.hid hT
    have T128 : T ≤ 128 := by omega
    have tl : ¬ 9223372036854775807 < 1 + t.length := by omega
    clear hT L1
    go_wp2_with fail
    rw [ET.out]
    refine KH.out.mono ?_
    rintro e w1 ⟨v1, rfl, O1, B1⟩
    obtain ⟨A2, c2, g2, z2, rfl, gb, _, R⟩ := own_any O1
    have R := Lib.hid R; have GB := Lib.hid gb
    have B01 := Lib.hid (below_step BL.out B1)
    have GB2 : Hid (w.heap.size ≤ g2) := Nat.le_trans BL.out.size GB.out
    generalize halves (limbs X) T = Xs at *
    have S0 : Tdv w1 g2 Xs z2 T 0 w1 := ⟨⟨[], by rw [NXl.out]; simp, .nil, by rw [List.drop_of_length_le (by rw [NXl.out]; exact Nat.le_refl _)]; rfl, fun q => by
      have := (R.out (by rw [← NXl.out]; exact q)).2.2
      rw [List.take_of_length_le (by rw [NXl.out]; exact Nat.le_refl _), List.append_nil]
      exact this⟩, by decide, Turn.refl _ _⟩
    clear O1 B1 gb KH
    go_wp2_with fail
    go_loopg [5, 7] T (fun g s5 s7 wq => ∃ r : Nat, g ≤ T ∧ s7 = .int .i64 ((g : Int) - 1) ∧ s5 = .int .u64 (r : Int) ∧ Tdv w1 g2 Xs z2 g r wq)
    case atStart => exact ⟨0, Nat.le_refl _, rfl, rfl, S0⟩
    case round =>
      clear S0
      obtain ⟨r, hg, rfl, rfl, S⟩ := hrel
      by_cases hz : gk = 0
      · subst hz
        have ek : ((0 : Nat) : Int) - 1 = -1 := by omega
        rw [ek]
        obtain ⟨ss, sl, sd, sv, RR⟩ := S.done
        rw [NXl.out] at sl RR
        rw [VA.out] at sv
        have hr := S.r10
        have eq1 : hval ss = X / 10 := by omega
        have eq2 : r = X % 10 := by omega
        have T12 := Lib.hid (B01.out.trans (S.t.below GB2.out))
        have HS := hl_of (fun q => (R.out q).1) RR sl
        have KW := whole_at (c := c2) HT.out HS sd (by omega)
        rw [eq1] at KW
        have KW := Lib.hid KW
        have EQ2 := Lib.hid eq2
        have hconv : ∀ W : World, _ := fun W => conv_byte W r hr
        clear S ss sl sd sv RR HS eq1 eq2 ek
        go_wp2_with fail
        refine KW.out.mono ?_
        rintro e w3 ⟨A3, n3, c3, rfl, L3, B3⟩
        have zq := ns_zero L3
        have B03 := Lib.hid ((below_step T12.out B3).alloc (below_step T12.out B3).size (.cells #[.int .u8 (48 + (r : Int))] 5))
        have hc3 := hconv w3
        have L4 := Lib.hid (L3.alloc (.cells #[.int .u8 (48 + (r : Int))] 5))
        clear hconv L3 B3
        by_cases q0 : X / 10 = 0
        · obtain rfl := zq.1 q0
          have E : Hid (dig r :: t = D) := by
            have := HX.out.2.1
            rw [dtext_last q0, ← EQ2.out] at this
            exact this
          clear zq q0
          go_wp2_with fail
          rw [cat_cons, E.out]
          go_ret
          exact ⟨rfl, B03.out⟩
        · have np : ((n3 : Int) == 0) = false := by
            have : n3 ≠ 0 := fun e => q0 (zq.2 e)
            simpa using this
          have k0 : 0 < k := by
            rcases Nat.eq_zero_or_pos k with e | e
            · have := HX.out.1
              rw [e, Nat.pow_zero] at this
              omega
            · exact e
          have H2 : Hid (X / 10 < 10 ^ (k - 1) ∧ dtext (X / 10) ++ (dig r :: t) = D ∧ ln (X / 10) ≤ 64) := by
            obtain ⟨h1, h2, h3⟩ := HX.out
            refine ⟨?_, ?_, Nat.le_trans (ln_mono (Nat.div_le_self _ _)) h3⟩
            · refine (Nat.div_lt_iff_lt_mul (by decide)).2 ?_
              rw [← Nat.pow_succ, show (k - 1).succ = k by omega]
              exact h1
            · rw [dtext_step q0, ← EQ2.out] at h2
              simpa using h2
          have N4 := Lib.hid (Ns.mk L4.out H2.out.2.2)
          have LTX : Hid (X / 10 < X) := by unfold Hid; omega
          have tk2 : (dig r :: t).length + (k - 1) ≤ 640 := by simp; omega
          have TK := Lib.hid tk2
          clear zq q0 k0 tk2
          go_wp2_with fail
          go_roundg (X / 10)
          case measure => exact LTX.out
          case rel =>
            go_light
            rw [cat_cons]
            exact ⟨dig r :: t, k - 1, rfl, TK.out, H2, N4, B03⟩
      · obtain ⟨i, rfl⟩ : ∃ i, gk = i + 1 := ⟨gk - 1, by omega⟩
        have ek : ((i + 1 : Nat) : Int) - 1 = (i : Int) := by omega
        rw [ek]
        obtain ⟨rfl, lw, rr⟩ := R.out (by omega)
        have ix : i < Xs.length := by rw [NXl.out]; omega
        obtain ⟨cc, cf⟩ := S.cell ix
        have bx := LX.out.at_ i ix
        have hr := S.r10
        have ST := Lib.hid (S.step ix LX.out)
        generalize Xs[i] = x at *
        have il : (i : Int) < T := by omega
        have il0 : (0 : Int) ≤ i := by omega
        clear S rr lw ek hz
        go_wp2_with fail
        go_roundg i
        case measure => omega
        case rel =>
          go_light
          refine ⟨_, by omega, by go_num, u64_rem r x, ?_⟩
          rw [u64_quo]
          exact ST.out
end Go.Proofs.YtdnikdocfbbkkaaDoor
namespace Go.Proofs.YtdnikdocfbbkkaaDoor
open Go.RowKit
set_option linter.unusedVariables false
set_option linter.unusedSimpArgs false

theorem addr_zero (ad : Addr) : ad.add 0 = ad := by unfold Addr.add; rw [if_pos rfl]
set_option maxHeartbeats 4000000 in
set_option maxRecDepth 100000 in
theorem small3_yes (A A' : Option Addr) (n c n' c' : Nat) (w : World) (h : n ≤ 70) (h' : n' ≤ 70) : Calls Tryd.prog 35 #[.agg #[.slice A n c, .slice A' n' c']] w fun e w' => e = .returned (.bool true) ∧ Below w.heap.size w w' := by
  have i1 : (n : Int) ≤ 70 := by omega
  have i2 : (n' : Int) ≤ 70 := by omega
  go_enter Tryd.func35, Tryd.ntmps35
  go_wp2_with fail
  go_ret
  exact ⟨rfl, (Below.refl _ _).alloc (Nat.le_refl _) _⟩
set_option maxHeartbeats 4000000 in
set_option maxRecDepth 100000 in
theorem small3_no (A A' : Option Addr) (n c n' c' : Nat) (w : World) (h : ¬ (n ≤ 70 ∧ n' ≤ 70)) : Calls Tryd.prog 35 #[.agg #[.slice A n c, .slice A' n' c']] w fun e w' => e = .returned (.bool false) ∧ Below w.heap.size w w' := by
  by_cases k : n ≤ 70
  · have i1 : (n : Int) ≤ 70 := by omega
    have i2 : ¬ (n' : Int) ≤ 70 := by omega
    go_enter Tryd.func35, Tryd.ntmps35
    go_wp2_with fail
    go_ret
    exact ⟨rfl, (Below.refl _ _).alloc (Nat.le_refl _) _⟩
  · have i1 : ¬ (n : Int) ≤ 70 := by omega
    go_enter Tryd.func35, Tryd.ntmps35
    go_wp2_with fail
    go_ret
    exact ⟨rfl, (Below.refl _ _).alloc (Nat.le_refl _) _⟩
set_option maxHeartbeats 4000000 in
set_option maxRecDepth 100000 in
theorem big_no (A A' D : Option Addr) (n c n' c' m k : Nat) (w : World) (h : n ≤ 64) (h' : n' ≤ 64) (h'' : m ≤ 64) : Calls Tryd.prog 92 #[.slice A n c, .slice A' n' c', .slice D m k] w fun e w' => e = .returned (.bool false) ∧ w = w' := by
  have i1 : ¬ (64 : Int) < n := by omega
  have i2 : ¬ (64 : Int) < n' := by omega
  have i3 : ¬ (64 : Int) < m := by omega
  go_enter Tryd.func92, Tryd.ntmps92
  go_wp2_with fail
  go_ret
  exact ⟨rfl, rfl⟩
set_option maxHeartbeats 4000000 in
set_option maxRecDepth 100000 in
theorem big_yes (A A' D : Option Addr) (n c n' c' m k : Nat) (w : World) (h : ¬ (n ≤ 64 ∧ n' ≤ 64 ∧ m ≤ 64)) : Calls Tryd.prog 92 #[.slice A n c, .slice A' n' c', .slice D m k] w fun e w' => e = .returned (.bool true) ∧ w = w' := by
  by_cases k1 : n ≤ 64
  · have i1 : ¬ (64 : Int) < n := by omega
    by_cases k2 : n' ≤ 64
    · have i2 : ¬ (64 : Int) < n' := by omega
      have i3 : (64 : Int) < m := by omega
      go_enter Tryd.func92, Tryd.ntmps92
      go_wp2_with fail
      go_ret
      exact ⟨rfl, rfl⟩
    · have i2 : (64 : Int) < n' := by omega
      go_enter Tryd.func92, Tryd.ntmps92
      go_wp2_with fail
      go_ret
      exact ⟨rfl, rfl⟩
  · have i1 : (64 : Int) < n := by omega
    go_enter Tryd.func92, Tryd.ntmps92
    go_wp2_with fail
    go_ret
    exact ⟨rfl, rfl⟩
set_option maxHeartbeats 4000000 in
set_option maxRecDepth 100000 in
theorem right3_no1 {A A' : Option Addr} {n c n' c' a b : Nat} {xs ys : List Nat} {w : World} (ha : Lim w A n c xs) (hb : Lim w A' n' c' ys) (k : ¬ Nt xs) : Calls Tryd.prog 37 #[.agg #[.slice A n c, .slice A' n' c']] w fun e w' => e = .returned (.bool false) ∧ Below w.heap.size w w' := by
  have S := (((Fs.start w).put ha).put hb).box (.slice A n c) (.slice A' n' c')
  go_enter Tryd.func37, Tryd.ntmps37
  go_wp2_with fail
  generalize w.alloc (.cells #[.slice A n c, .slice A' n' c'] 50) = w0 at *
  refine (refRight_no S.lie.2.1 k).mono ?_
  rintro e w' ⟨rfl, rfl⟩
  go_wp2_with fail
  go_ret
  exact ⟨rfl, S.bl⟩
set_option maxHeartbeats 4000000 in
set_option maxRecDepth 100000 in
theorem right3_no2 {A A' : Option Addr} {n c n' c' a b : Nat} {xs ys : List Nat} {w : World} (ha : Lim w A n c (limbs a)) (hb : Lim w A' n' c' ys) (la : ln a ≤ 64) (k : ¬ Nt ys) : Calls Tryd.prog 37 #[.agg #[.slice A n c, .slice A' n' c']] w fun e w' => e = .returned (.bool false) ∧ Below w.heap.size w w' := by
  have S := (((Fs.start w).put ha).put hb).box (.slice A n c) (.slice A' n' c')
  go_enter Tryd.func37, Tryd.ntmps37
  go_wp2_with fail
  generalize w.alloc (.cells #[.slice A n c, .slice A' n' c'] 50) = w0 at *
  refine (refRight_yes S.lie.2.1 la).mono ?_
  rintro e w' ⟨rfl, rfl⟩
  obtain ⟨⟨c0, c1, -⟩, -⟩ := S.cel
  go_wp2_with fail
  refine (refRight_no S.lie.1 k).mono ?_
  rintro e w' ⟨rfl, rfl⟩
  go_wp2_with fail
  go_ret
  exact ⟨rfl, S.bl⟩
set_option maxHeartbeats 4000000 in
set_option maxRecDepth 100000 in
theorem right3_no3 {A A' : Option Addr} {n c n' c' a b : Nat} {xs ys : List Nat} {w : World} (ha : Lim w A n c (limbs a)) (hb : Lim w A' n' c' (limbs b)) (la : ln a ≤ 64) (lb : ln b ≤ 64) (z : n' = 0) : Calls Tryd.prog 37 #[.agg #[.slice A n c, .slice A' n' c']] w fun e w' => e = .returned (.bool false) ∧ Below w.heap.size w w' := by
  subst z
  have S := (((Fs.start w).put ha).put hb).box (.slice A n c) (.slice A' 0 c')
  go_enter Tryd.func37, Tryd.ntmps37
  go_wp2_with fail
  generalize w.alloc (.cells #[.slice A n c, .slice A' 0 c'] 50) = w0 at *
  refine (refRight_yes S.lie.2.1 la).mono ?_
  rintro e w' ⟨rfl, rfl⟩
  obtain ⟨⟨c0, c1, -⟩, -⟩ := S.cel
  go_wp2_with fail
  refine (refRight_yes S.lie.1 lb).mono ?_
  rintro e w' ⟨rfl, rfl⟩
  go_wp2_with fail
  go_ret
  exact ⟨rfl, S.bl⟩
set_option maxHeartbeats 4000000 in
set_option maxRecDepth 100000 in
theorem right3_no4 {A A' : Option Addr} {n c n' c' a b : Nat} {xs ys : List Nat} {w : World} (ha : Lim w A n c (limbs a)) (hb : Lim w A' n' c' (limbs b)) (la : ln a ≤ 64) (lb : ln b ≤ 64) (z : n' ≠ 0) {g : Nat} (hg : Nat.gcd a b = g) (g1 : g ≠ 1) : Calls Tryd.prog 37 #[.agg #[.slice A n c, .slice A' n' c']] w fun e w' => e = .returned (.bool false) ∧ Below w.heap.size w w' := by
  have i0 : ((n' : Int) == 0) = false := by simp; omega
  have S := (((Fs.start w).put ha).put hb).box (.slice A n c) (.slice A' n' c')
  go_enter Tryd.func37, Tryd.ntmps37
  go_wp2_with fail
  generalize w.alloc (.cells #[.slice A n c, .slice A' n' c'] 50) = w0 at *
  refine (refRight_yes S.lie.2.1 la).mono ?_
  rintro e w' ⟨rfl, rfl⟩
  obtain ⟨⟨c0, c1, -⟩, -⟩ := S.cel
  go_wp2_with fail
  refine (refRight_yes S.lie.1 lb).mono ?_
  rintro e w' ⟨rfl, rfl⟩
  go_wp2_with fail
  have K := refGcd_any S.lie.2.1 S.lie.1 la lb
  rw [hg] at K
  refine K.mono ?_
  clear K
  rintro e w1 ⟨A1, n1, c1', rfl, L1, B1⟩
  have S := (S.next B1).put L1
  have hl := L1.len
  rw [limbs_length] at hl
  clear L1 B1 c0 c1
  by_cases q : n1 = 1
  · subst q
    have gb : g < 4294967296 := by
      have := lt_ln g
      rw [hl, Nat.pow_one, B_eq] at this
      exact this
    have g0 : g ≠ 0 := by
      rintro rfl
      rw [ln_zero] at hl
      omega
    have LL := S.lie.1
    rw [limbs_one gb g0] at LL
    obtain ⟨ad, rfl⟩ := LL.some_ (by decide)
    have c2 := LL.cell 0 (by simp)
    simp only [List.getElem_cons_zero] at c2
    have c3 := c2
    rw [addr_zero] at c3
    have i1 : ((g : Int) == 1) = false := by simp; omega
    clear LL gb g0 hl
    go_wp2_with fail
    go_ret
    exact ⟨rfl, S.bl⟩
  · have i1 : ((n1 : Int) == 1) = false := by simp; omega
    go_wp2_with fail
    go_ret
    exact ⟨rfl, S.bl⟩
set_option maxHeartbeats 4000000 in
set_option maxRecDepth 100000 in
theorem right3_yes {A A' : Option Addr} {n c n' c' a b : Nat} {xs ys : List Nat} {w : World} (ha : Lim w A n c (limbs a)) (hb : Lim w A' n' c' (limbs b)) (la : ln a ≤ 64) (lb : ln b ≤ 64) (z : n' ≠ 0) (hg : Nat.gcd a b = 1) : Calls Tryd.prog 37 #[.agg #[.slice A n c, .slice A' n' c']] w fun e w' => e = .returned (.bool true) ∧ Below w.heap.size w w' := by
  have i0 : ((n' : Int) == 0) = false := by simp; omega
  have S := (((Fs.start w).put ha).put hb).box (.slice A n c) (.slice A' n' c')
  go_enter Tryd.func37, Tryd.ntmps37
  go_wp2_with fail
  generalize w.alloc (.cells #[.slice A n c, .slice A' n' c'] 50) = w0 at *
  refine (refRight_yes S.lie.2.1 la).mono ?_
  rintro e w' ⟨rfl, rfl⟩
  obtain ⟨⟨c0, c1, -⟩, -⟩ := S.cel
  go_wp2_with fail
  refine (refRight_yes S.lie.1 lb).mono ?_
  rintro e w' ⟨rfl, rfl⟩
  go_wp2_with fail
  have K := refGcd_any S.lie.2.1 S.lie.1 la lb
  rw [hg] at K
  refine K.mono ?_
  clear K
  rintro e w1 ⟨A1, n1, c1', rfl, L1, B1⟩
  have S := (S.next B1).put L1
  have hl := L1.len
  rw [limbs_length] at hl
  clear L1 B1 c0 c1
  have LL := S.lie.1
  rw [limbs_one (x := 1) (by decide) (by decide)] at LL
  have q := LL.len
  obtain rfl : n1 = 1 := q.symm
  obtain ⟨ad, rfl⟩ := LL.some_ (by decide)
  have c2 := LL.cell 0 (by simp)
  simp only [List.getElem_cons_zero] at c2
  have c3 := c2
  rw [addr_zero] at c3
  clear LL hl q
  go_wp2_with fail
  go_ret
  exact ⟨rfl, S.bl⟩
theorem right3_any {A A' : Option Addr} {n c n' c' : Nat} {xs ys : List Nat} {w : World} (ha : Lim w A n c xs) (hb : Lim w A' n' c' ys) : Calls Tryd.prog 37 #[.agg #[.slice A n c, .slice A' n' c']] w fun e w' => e = .returned (.bool (frB xs ys)) ∧ Below w.heap.size w w' := by
  by_cases k1 : Nt xs
  · have e1 := k1.eq ha.lo
    have l1 : ln (val xs) = n := by rw [← limbs_length, ← e1]; exact ha.len
    have m1 := k1.1
    have q1 := ha.len
    by_cases k2 : Nt ys
    · have e2 := k2.eq hb.lo
      have l2 : ln (val ys) = n' := by rw [← limbs_length, ← e2]; exact hb.len
      have m2 := k2.1
      have q2 := hb.len
      by_cases z : n' = 0
      · rw [frB_no fun f => f.2.2.1 (List.length_eq_zero_iff.1 (by omega))]
        exact right3_no3 (a := val xs) (b := val ys) (xs := []) (ys := []) (e1 ▸ ha) (e2 ▸ hb) (by omega) (by omega) z
      · by_cases g : Nat.gcd (val xs) (val ys) = 1
        · rw [frB_yes ⟨k1, k2, fun y => z (by rw [← q2, y]; rfl), g⟩]
          exact right3_yes (a := val xs) (b := val ys) (xs := []) (ys := []) (e1 ▸ ha) (e2 ▸ hb) (by omega) (by omega) z g
        · rw [frB_no fun f => g f.2.2.2]
          exact right3_no4 (a := val xs) (b := val ys) (xs := []) (ys := []) (e1 ▸ ha) (e2 ▸ hb) (by omega) (by omega) z rfl g
    · rw [frB_no fun f => k2 f.2.1]
      exact right3_no2 (a := val xs) (b := 0) (xs := []) (e1 ▸ ha) hb (by omega) k2
  · rw [frB_no fun f => k1 f.1]
    exact right3_no1 (a := 0) (b := 0) ha hb k1
set_option maxHeartbeats 4000000 in
set_option maxRecDepth 100000 in
theorem reduce3_any {A A' : Option Addr} {n c n' c' a b : Nat} {w : World} (ha : Lim w A n c (limbs a)) (hb : Lim w A' n' c' (limbs b)) (la : ln a ≤ 64) (lb : ln b ≤ 64) (b0 : b ≠ 0) : Calls Tryd.prog 51 #[.slice A n c, .slice A' n' c'] w fun e w' => RetR (a / Nat.gcd a b) (b / Nat.gcd a b) w e w' := by
  have lg := ln_gcd la lb
  obtain ⟨g, hg⟩ : ∃ g, Nat.gcd a b = g := ⟨_, rfl⟩
  have g0 : g ≠ 0 := by
    intro z
    rw [z] at hg
    exact b0 (Nat.eq_zero_of_gcd_eq_zero_right hg)
  rw [hg] at lg ⊢
  have HG := Lib.hid hg
  have S := (((Fs.start w).put ha).put hb).box (.slice none 0 0) (.slice none 0 0)
  clear ha hb hg b0
  go_enter Tryd.func51, Tryd.ntmps51
  go_wp2_with fail
  generalize w.alloc (.cells #[.slice none 0 0, .slice none 0 0] 50) = w0 at *
  have K := refGcd_any S.lie.2.1 S.lie.1 la lb
  rw [HG.out] at K
  refine K.mono ?_
  clear K
  rintro e w1 ⟨A1, n1, c1, rfl, L1, B1⟩
  have S := (S.next B1).put L1
  clear L1 B1
  go_wp2_with fail
  refine (refDiv_any S.lie.2.2.1 S.lie.1 la lg g0).mono ?_
  rintro e w2 ⟨A2, n2, c2, A3, n3, c3, rfl, L2, L3, B2⟩
  have S := (S.next B2).put L2
  clear L2 L3 B2
  go_wp2_with fail
  refine (refDiv_any S.lie.2.2.1 S.lie.2.1 lb lg g0).mono ?_
  rintro e w4 ⟨A4, n4, c4, A5, n5, c5, rfl, L4, L5, B4⟩
  have S := (S.next B4).put L4
  clear L4 L5 B4
  obtain ⟨⟨c0, c1, m0, m1, sz⟩, _⟩ := S.cel
  go_wp2_with fail
  go_light
  exact bodyPost_ret (v := .agg #[.slice A2 n2 c2, .slice A4 n4 c4]) (by simp [results, Tryd.results51, go_sem, c0, c1]) rfl ⟨_, _, _, _, _, _, rfl, S.lie.2.1.put2 c0 c1 _ _, S.lie.1.put2 c0 c1 _ _, (S.bl.setCell (Nat.le_refl _) _).setCell (Nat.le_refl _) _⟩
set_option maxHeartbeats 4000000 in
set_option maxRecDepth 100000 in
theorem told3_any {A A' D D' : Option Addr} {n c n' c' m k m' k' : Nat} {xs ys : List Nat} {t : Int} {w : World} (ha : Lim w A n c xs) (ha' : Lim w A' n' c' ys) (hb : Lim w D m k xs) (hb' : Lim w D' m' k' ys) : Calls Tryd.prog 44 #[.agg #[.slice A n c, .slice A' n' c'], .int .i64 t, .agg #[.slice D m k, .slice D' m' k'], .int .i64 t] w fun e w' => e = .returned (.bool true) ∧ Below w.heap.size w w' := by
  have S := (((((Fs.start w).put ha).put ha').put hb).put hb').box (.slice A n c) (.slice A' n' c') |>.box (.slice D m k) (.slice D' m' k')
  simp only [World.size_alloc] at S
  clear ha ha' hb hb'
  go_enter Tryd.func44, Tryd.ntmps44
  go_wp2_with fail
  generalize (w.alloc (.cells #[.slice A n c, .slice A' n' c'] 50)).alloc (.cells #[.slice D m k, .slice D' m' k'] 50) = w0 at *
  refine (same3_yes S.lie.2.2.2.1 S.lie.2.2.1 S.lie.2.1 S.lie.1).mono ?_
  rintro e w1 ⟨rfl, B1⟩
  have S := S.next B1
  clear B1
  go_wp2_with fail
  go_ret
  exact ⟨rfl, S.bl⟩
end Go.Proofs.YtdnikdocfbbkkaaDoor
