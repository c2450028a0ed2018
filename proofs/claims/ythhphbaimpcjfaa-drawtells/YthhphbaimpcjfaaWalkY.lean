/- The document's answers: the walk of Mul. -/
import Derived.Test.YthhphbaimpcjfaaWalkW
namespace Go.Proofs.Ythhphbaimpcjfaa
open Go.RowKit
set_option linter.unusedVariables false
set_option linter.unusedSimpArgs false

/-- A block of noughts, of 64 bits each. -/
@[irreducible] def zrow64 (n : Nat) : Obj := .cells ((List.replicate n 0).map hv).toArray 23
theorem Hrow.zeros (w : World) (n : Nat) : Hrow (w.alloc (zrow64 n)) w.heap.size (List.replicate n 0) [] := by
  unfold zrow64
  refine ⟨?_⟩
  rw [List.append_nil]
  exact heap_alloc_new w _
theorem make_u64 (n : Nat) (hn : n ≤ 1000000000000) (w : World) : (Instr.makeSlice 22 (.int .i64 (n : Int)) (.int .i64 (n : Int))).run Try.prog w =
    .ok (.slice (some ⟨w.heap.size, 0, none⟩) n n) (w.alloc (zrow64 n)) := by
  unfold zrow64
  obtain ⟨i, hi, hz, hs, hb⟩ := info_parts info_u64
  have hbytes : (i.bytes : Int) * (n : Int) ≤ 281474976710656 := by rw [hb]; omega
  have hr := run_make (P := Try.prog) w 22 23 i (.int .u64 0) Try.underlying22 hi hz .i64 .i64 n n (by omega) (by omega) hbytes (by omega)
  simp only [Int.toNat_natCast] at hr
  have e : madeCells (Value.int IntKind.u64 0).cells n = ((List.replicate n 0).map hv).toArray := by
    apply Array.ext'
    rw [show (Value.int IntKind.u64 0).cells = #[.int .u64 0] from rfl, toList_madeCells_one]
    simp
  rw [hr, hs, Nat.mul_one, e]

/-- What is in the loops of Mul. -/
structure Hpr (w : World) (g N : Nat) (X Y : List Nat) (x i j k : Nat) (wr : World) : Prop where
  ps : ∃ ps, ps.length = N ∧ Ld ps ∧ hval ps + H16 ^ (i + j) * k = hval (X.take i) * hval Y + H16 ^ i * x * hval (Y.take j) ∧ (∀ t, i + Y.length ≤ t → t < N → ps[t]? = some 0) ∧ Hrow wr g ps []
  kb : k < 65536
  t : Turn w wr g
section
variable {w : World} {g N : Nat} {X Y : List Nat} {x i j k : Nat} {wr : World}
theorem Hpr.drew (h : Hpr w g N X Y x i j k wr) : Hpr w g N X Y x i j k wr.drew := by
  obtain ⟨ps, a, b, c, d, r⟩ := h.ps
  exact ⟨⟨ps, a, b, c, d, r.drew⟩, h.kb, h.t.drew⟩
theorem Hpr.step (h : Hpr w g N X Y x i j k wr) (hx : x < 65536) (LY : Ld Y) (hj : j < Y.length) (hN : i + Y.length < N) :
    ∃ p : Nat, p < 65536 ∧ wr.cell? ⟨g, i + j, none⟩ = some (.int .u64 (p : Int)) ∧ wr.frozen? ⟨g, i + j, none⟩ = false ∧
      Hpr w g N X Y x i (j + 1) ((p + x * Y[j] + k) / 65536) (wr.setCell ⟨g, i + j, none⟩ (hv ((p + x * Y[j] + k) % 65536))) := by
  obtain ⟨ps, hl, ld, hv_, hz, r⟩ := h.ps
  have hk := h.kb
  have hy := LY.at_ j hj
  have hij : i + j < ps.length := by omega
  have hp := ld.at_ _ hij
  have hxy : x * Y[j] ≤ 65535 * 65535 := Nat.mul_le_mul (by omega) (by omega)
  refine ⟨ps[i + j], hp, r.cell _ hij, r.melt _, ⟨ps.set (i + j) ((ps[i + j] + x * Y[j] + k) % 65536), by simp [hl], ld_set ld _ _ (Nat.mod_lt _ (by decide)), ?_, ?_, r.set_ _ hij _⟩, ?_, h.t.setCell _ _⟩
  · have e := hval_set ps (i + j) ((ps[i + j] + x * Y[j] + k) % 65536) hij
    have := hpr_step hv_ e rfl
    rw [← Nat.add_assoc, Nat.pow_succ, hval_take_succ Y j hj]
    rw [show H16 ^ (i + j) * H16 = H16 ^ (i + j) * 65536 by rw [H16_eq]]
    rw [this, Nat.mul_add, Nat.pow_add, Nat.add_assoc]
    congr 1
    congr 1
    rw [Nat.mul_assoc, Nat.mul_assoc, Nat.mul_left_comm x]
  · intro t h1 h2
    rw [List.getElem?_set_ne (by omega)]
    exact hz t h1 h2
  · generalize x * Y[j] = q at *
    omega
theorem Hpr.turn (h : Hpr w g N X Y x i Y.length k wr) (hi : i < X.length) (hx : X[i] = x) (hN : i + Y.length < N) (x' : Nat) :
    wr.cell? ⟨g, i + Y.length, none⟩ = some (.int .u64 0) ∧ wr.frozen? ⟨g, i + Y.length, none⟩ = false ∧ Hpr w g N X Y x' (i + 1) 0 0 (wr.setCell ⟨g, i + Y.length, none⟩ (hv k)) := by
  obtain ⟨ps, hl, ld, hv_, hz, r⟩ := h.ps
  have hk := h.kb
  have h0 := hz (i + Y.length) (Nat.le_refl _) hN
  have hij : i + Y.length < ps.length := by omega
  have hp : ps[i + Y.length] = 0 := (List.getElem?_eq_some_iff.1 h0).2
  refine ⟨r.cell' h0, r.melt _, ⟨ps.set (i + Y.length) k, by simp [hl], ld_set ld _ _ hk, ?_, ?_, r.set_ _ hij _⟩, by omega, h.t.setCell _ _⟩
  · have e := hval_set ps (i + Y.length) k hij
    rw [hp, Nat.mul_zero, Nat.add_zero] at e
    rw [e, hv_, List.take_of_length_le (Nat.le_refl _), hval_take_succ X i hi, hx, Nat.add_mul, Nat.mul_zero, Nat.add_zero, List.take_zero, hval_nil, Nat.mul_zero, Nat.add_zero]
  · intro t h1 h2
    rw [List.getElem?_set_ne (by omega)]
    exact hz t (by omega) h2
end
theorem hcast_div (x y p k : Nat) : ((p : Int) + (x : Int) * (y : Int) + (k : Int)) / 65536 = (((p + x * y + k) / 65536 : Nat) : Int) := by
  rw [← Int.natCast_mul]; generalize x * y = q; omega
theorem hcast_mod (x y p k : Nat) : ((p : Int) + (x : Int) * (y : Int) + (k : Int)) % 65536 = (((p + x * y + k) % 65536 : Nat) : Int) := by
  rw [← Int.natCast_mul]; generalize x * y = q; omega

set_option maxHeartbeats 4000000 in
set_option maxRecDepth 100000 in
theorem refMul_any {A A' : Option Addr} {n c n' c' : Nat} {xs ys : List Nat} {w : World} (ha : Lim w A n c xs) (hb : Lim w A' n' c' ys) (hn : n ≤ 100000) (hn' : n' ≤ 100000) :
    Calls Try.prog 18 #[.slice A n c, .slice A' n' c'] w fun e w' => RetN (val xs * val ys) w e w' := by
  obtain ⟨T, hT⟩ : ∃ T, 2 * n = T := ⟨_, rfl⟩
  obtain ⟨U, hU⟩ : ∃ U, 2 * n' = U := ⟨_, rfl⟩
  have ET := Lib.hid (show 2 * (n : Int) = (T : Int) by omega)
  have EU := Lib.hid (show 2 * (n' : Int) = (U : Int) by omega)
  obtain ⟨N, hN⟩ : ∃ N, T + U + 2 = N := ⟨_, rfl⟩
  have EN := Lib.hid (show (T : Int) + (U : Int) + 2 = (N : Int) by omega)
  have HN2 : Hid (2 * (n + n' + 1) = N) := by unfold Hid; omega
  have hmk := make_u64 N (by omega)
  have KA := Lib.hid (half_any (n := T) ha (by omega))
  have KB := Lib.hid (fun (W : World) (hW : Below w.heap.size w W) => half_any (n := U) (hb.next hW) (by omega))
  have VA : Hid (hval (halves xs T) = val xs) := by unfold Hid; rw [← hT]; exact halves_whole (by rw [ha.len]; omega)
  have VB : Hid (hval (halves ys U) = val ys) := by unfold Hid; rw [← hU]; exact halves_whole (by rw [hb.len]; omega)
  have LX := Lib.hid (ld_halves ha.lo T); have LY := Lib.hid (ld_halves hb.lo U)
  have NX := Lib.hid (halves_len xs T); have NY := Lib.hid (halves_len ys U)
  have hT2 : T ≤ 200000 := by omega
  have hU2 : U ≤ 200000 := by omega
  have HN := Lib.hid hN
  clear ha hb hT hU
  go_enter Try.func18, Try.ntmps18
  go_wp2_with fail
  rw [ET.out, EU.out]
  refine KA.out.mono ?_
  rintro e w1 ⟨v1, rfl, O1, B1⟩
  obtain ⟨A1, c1, g1, z1, rfl, gb1, _, R1⟩ := own_any O1
  clear O1
  go_wp2_with fail
  refine (KB.out w1 B1).mono ?_
  rintro e w2 ⟨v2, rfl, O2, B2⟩
  obtain ⟨A2, c2, g2, z2, rfl, gb2, _, R2⟩ := own_any O2
  have B12 := below_step B1 B2
  have R1 : Hid (0 < T → A1 = some ⟨g1, 0, none⟩ ∧ g1 < w2.heap.size ∧ Hrow w2 g1 (halves xs T) z1) := fun q => ⟨(R1 q).1, Nat.lt_of_lt_of_le (R1 q).2.1 B2.size, (R1 q).2.2.next B2⟩
  have R2 := Lib.hid R2
  have BB12 := Lib.hid B12
  clear O2 B1 B2 B12 gb1 gb2 KA KB
  generalize halves xs T = X at *
  generalize halves ys U = Y at *
  have hmk2 := hmk w2
  rw [← EN.out] at hmk2
  clear hmk
  go_wp2_with fail
  have hBl : Below w.heap.size w (w2.alloc (zrow64 N)) := BB12.out.alloc BB12.out.size _
  have S0 : Hpr (w2.alloc (zrow64 N)) w2.heap.size N X Y 0 0 0 0 (w2.alloc (zrow64 N)) := by
    refine ⟨⟨List.replicate N 0, by simp, ld_zeros _, by rw [List.take_zero, List.take_zero, hval_nil, Nat.mul_zero, Nat.mul_zero, Nat.zero_mul, hval_zeros], fun t _ h2 => ?_, Hrow.zeros w2 _⟩, by omega, Turn.refl _ _⟩
    rw [List.getElem?_replicate, if_pos h2]
  have R1a : Hid (0 < T → A1 = some ⟨g1, 0, none⟩ ∧ g1 < w2.heap.size ∧ Hrow (w2.alloc (zrow64 N)) g1 X z1) := fun q => ⟨(R1.out q).1, (R1.out q).2.1, (R1.out q).2.2.next ((Below.refl _ _).alloc (Nat.le_refl _) _)⟩
  have R2a : Hid (0 < U → A2 = some ⟨g2, 0, none⟩ ∧ g2 < w2.heap.size ∧ Hrow (w2.alloc (zrow64 N)) g2 Y z2) := fun q => ⟨(R2.out q).1, (R2.out q).2.1, (R2.out q).2.2.next ((Below.refl _ _).alloc (Nat.le_refl _) _)⟩
  have GS := Lib.hid BB12.out.size
  clear R1 R2 BB12 hmk2
  generalize w2.alloc (zrow64 N) = wa at *
  generalize w2.heap.size = g at *
  go_loopg [10] T (fun q s10 wr => ∃ i x : Nat, i + q = T ∧ s10 = .int .i64 (i : Int) ∧ Hpr wa g N X Y x i 0 0 wr)
  case atStart => exact ⟨0, 0, by omega, rfl, S0⟩
  case round =>
    clear S0
    obtain ⟨i, x, hq, rfl, S⟩ := hrel
    have HQ := Lib.hid hq
    by_cases lt : i < T
    · clear hq
      have il : (i : Int) < T := by omega
      have il0 : (0 : Int) ≤ i := by omega
      obtain ⟨rfl, l1, r1⟩ := R1a.out (by omega)
      have ix : i < X.length := by rw [NX.out]; exact lt
      have bx := LX.out.at_ i ix
      have C1 : Hid (∀ W : World, Turn wa W g → W.cell? ⟨g1, i, none⟩ = some (.int .u64 (X[i] : Int))) := fun W t => (r1.turn t (by omega)).cell i ix
      obtain ⟨x1, hx1⟩ : ∃ x1, X[i] = x1 := ⟨_, rfl⟩
      have S1 : Hpr wa g N X Y x1 i 0 0 wr := by
        obtain ⟨ps, p1, p0, p2, p3, p4⟩ := S.ps
        refine ⟨⟨ps, p1, p0, ?_, p3, p4⟩, S.kb, S.t⟩
        rw [List.take_zero, hval_nil, Nat.mul_zero, Nat.add_zero] at p2 ⊢
        exact p2
      have HX1 := Lib.hid hx1
      rw [hx1] at bx C1
      clear S hx1 x r1 l1
      go_wp2_with fail
      go_loopg [11, 12] U (fun q s11 s12 wr => ∃ j k : Nat, j + q = U ∧ s12 = .int .i64 (j : Int) ∧ s11 = .int .u64 (k : Int) ∧ Hpr wa g N X Y x1 i j k wr)
      case atStart => exact ⟨0, 0, by omega, rfl, rfl, S1⟩
      case round =>
        clear S1
        obtain ⟨j, k, hq2, rfl, rfl, S⟩ := hrel
        have HQ2 := Lib.hid hq2
        by_cases lt2 : j < U
        · clear hq2
          have jl : (j : Int) < U := by omega
          have jl0 : (0 : Int) ≤ j := by omega
          have jy : j < Y.length := by rw [NY.out]; exact lt2
          obtain ⟨rfl, l2, r2⟩ := R2a.out (by omega)
          have c1 := C1.out wr S.t
          have c2 : wr.cell? ⟨g2, j, none⟩ = some (.int .u64 (Y[j] : Int)) := (r2.turn S.t (by omega)).cell j jy
          have bY := LY.out.at_ j jy
          obtain ⟨p, bp, c3, f3, ST⟩ := S.drew.step bx LY.out jy (by rw [NY.out]; omega)
          have ST := Lib.hid ST
          generalize Y[j] = y at *
          have bk := S.kb
          have hxy : x1 * y ≤ 65535 * 65535 := Nat.mul_le_mul (by omega) (by omega)
          have exy : ((x1 * y : Nat) : Int) = (x1 : Int) * (y : Int) := Int.natCast_mul _ _
          have hxy1 : (x1 : Int) * (y : Int) ≤ 4294836225 := by omega
          have hxy0 : 0 ≤ (x1 : Int) * (y : Int) := by omega
          have ij1 : (i : Int) + j < N := by omega
          have ij0 : (0 : Int) ≤ (i : Int) + j := by omega
          have c3 : wr.cell? ⟨g, i + j, none⟩ = some (.int .u64 (p : Int)) := c3
          have f3 : wr.frozen? ⟨g, i + j, none⟩ = false := f3
          clear S exy hxy r2 l2
          go_wp2_with fail
          go_region
          all_goals go_wp2_with fail
          all_goals go_roundg (gk - 1)
          case measure => have := HQ2.out; omega
          case rel =>
            go_light
            refine ⟨j + 1, _, by have := HQ2.out; omega, by go_num, congrArg (Value.int .u64) (hcast_div x1 y p k), ?_⟩
            rw [hcast_mod x1 y p k]
            exact ST.out
        · obtain rfl : U = j := by omega
          have jl : ¬ (U : Int) < U := by omega
          have bk := S.kb
          have TT := S
          rw [← NY.out] at TT
          obtain ⟨c3, f3, ST⟩ := TT.turn ix HX1.out (by rw [NY.out]; omega) 0
          rw [NY.out] at c3 f3 ST
          have ST := Lib.hid ST
          have ij1 : (i : Int) + U < N := by omega
          have ij0 : (0 : Int) ≤ (i : Int) + U := by omega
          clear S TT hq2 lt2
          go_wp2_with fail
          go_roundg (T - (i + 1))
          case measure => have := HQ.out; omega
          case rel =>
            go_light
            exact ⟨i + 1, 0, by have := HQ.out; omega, by go_num, ST.out⟩
    · obtain rfl : T = i := by omega
      have il : ¬ (T : Int) < T := by omega
      obtain ⟨ps, p1, p0, p2, p3, R⟩ := S.ps
      rw [Nat.mul_zero, Nat.add_zero, List.take_zero, hval_nil, Nat.mul_zero, Nat.add_zero, List.take_of_length_le (by rw [NX.out]; exact Nat.le_refl _), VA.out, VB.out] at p2
      have T12 := hBl.trans (S.t.below GS.out)
      have KW := Lib.hid (whole_at (c := N) HN2.out (R.hl p1) p0 (by omega))
      rw [p2] at KW
      clear R S p1 p2 p3 p0 hq HQ
      go_wp2_with fail
      refine KW.out.mono ?_
      rintro e w3 ⟨A3, n3, c3, rfl, L3, B3⟩
      go_wp2_with fail
      go_ret
      exact ⟨_, _, _, rfl, L3, below_step T12 B3⟩
end Go.Proofs.Ythhphbaimpcjfaa
