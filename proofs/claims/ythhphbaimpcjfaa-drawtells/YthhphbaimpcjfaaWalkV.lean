/- The document's answers: halves in memory; the walks of Half, Whole. -/
import Derived.Test.YthhphbaimpcjfaaWalkU
import Derived.Test.YthhphbaimpcjfaaNumH
namespace Go.Proofs.Ythhphbaimpcjfaa
open Go.RowKit
set_option linter.unusedVariables false
set_option linter.unusedSimpArgs false

/-- A half. -/
abbrev hv (x : Nat) : Value := .int .u64 (x : Int)
theorem info_u64 : (Try.prog.info? 23).map (fun i => (i.zero, i.size, i.bytes)) = some (some (.int .u64 0), 1, 8) := by kernel_rfl
/-- Block g begins with these halves. -/
structure Hrow (w : World) (g : Nat) (hs : List Nat) (ys : List Value) : Prop where
  blk : w.heap[g]? = some (.cells (hs.map hv ++ ys).toArray 23 (0, 0))
section
variable {w w' : World} {g : Nat} {hs : List Nat} {ys : List Value}
theorem Hrow.lt (h : Hrow w g hs ys) : g < w.heap.size := (Array.getElem?_eq_some_iff.1 h.blk).1
theorem Hrow.cell (h : Hrow w g hs ys) (i : Nat) (hi : i < hs.length) : w.cell? ⟨g, i, none⟩ = some (hv hs[i]) := by
  have := h.blk
  simp [World.cell?, this, List.getElem?_append_left, hi]
theorem Hrow.cell' (h : Hrow w g hs ys) {i x : Nat} (hi : hs[i]? = some x) : w.cell? ⟨g, i, none⟩ = some (hv x) := by
  obtain ⟨a, b⟩ := List.getElem?_eq_some_iff.1 hi
  rw [h.cell i a, b]
theorem Hrow.melt (h : Hrow w g hs ys) (i : Nat) : w.frozen? ⟨g, i, none⟩ = false := by
  have := h.blk
  simp [World.frozen?, this]
theorem Hrow.set_ (h : Hrow w g hs ys) (i : Nat) (hi : i < hs.length) (v : Nat) : Hrow (w.setCell ⟨g, i, none⟩ (hv v)) g (hs.set i v) ys := by
  refine ⟨?_⟩
  have := h.blk
  simp [World.setCell, Array.getElem?_modify, this]
  rw [List.set_append_left _ _ (by simpa using hi)]
theorem Hrow.drew (h : Hrow w g hs ys) : Hrow w.drew g hs ys := ⟨h.blk⟩
theorem Hrow.next (h : Hrow w g hs ys) (hb : Below w.heap.size w w') : Hrow w' g hs ys := ⟨(hb.block g h.lt).trans h.blk⟩
theorem Hrow.turn (h : Hrow w g hs ys) {g' : Nat} (t : Turn w w' g') (hne : g ≠ g') : Hrow w' g hs ys := ⟨(t.block _ hne).trans h.blk⟩
end
/-- The slice at A of length n reads as the halves hs. -/
structure Hl (w : World) (A : Option Addr) (n : Nat) (hs : List Nat) : Prop where
  len : hs.length = n
  at_ : ∀ j (h : j < hs.length), ∃ ad, A = some ad ∧ w.cell? (ad.add j) = some (hv hs[j])
theorem Hrow.hl {w : World} {g n : Nat} {hs : List Nat} {ys : List Value} (h : Hrow w g hs ys) (hn : hs.length = n) : Hl w (some ⟨g, 0, none⟩) n hs :=
  ⟨hn, fun j hj => ⟨_, rfl, by rw [add_lit, Nat.zero_add]; exact h.cell j hj⟩⟩
theorem own_hrow {w : World} {base n : Nat} {v : Value} {hs : List Nat} (h : w.ownsRow base 23 1 v n (hs.map hv)) (hn : 0 < n) : ∃ g c ys, v = .slice (some ⟨g, 0, none⟩) n c ∧ base ≤ g ∧ n ≤ c ∧ c ≤ maxLen ∧ hs.length = n ∧ Hrow w g hs ys := by
  have hl : hs.length = n := by have := h.1; simpa using this
  rcases h.2 with ⟨rfl, rfl⟩ | ⟨g, cap, cur, rfl, h0, hb, h1, h2, h3, h4⟩
  · omega
  · refine ⟨g, cap, cur.toList.drop n, rfl, h0, h1, h2, hl, ⟨?_⟩⟩
    rw [hb]
    have : cur = (hs.map hv ++ cur.toList.drop n).toArray := by
      apply Array.ext'
      rw [Nat.mul_one] at h4
      rw [← h4]
      simp
    rw [← this]
theorem own_base {w : World} {base n : Nat} {e : TypeId} {v : Value} {xs : List Value} (h : w.ownsRow base e 1 v n xs) : ∀ k, v.ownBlock = some k → base ≤ k := by
  intro k hk
  rcases h.2 with ⟨rfl, _⟩ | ⟨g, cap, cur, rfl, h0, _⟩
  · simp [Value.ownBlock] at hk
  · simp [Value.ownBlock] at hk
    omega

/-- What is in the loop of Half. -/
structure Hlf (w : World) (xs : List Nat) (i : Nat) (v : Value) (wr : World) : Prop where
  own : wr.ownsRow w.heap.size 23 1 v i ((halves xs i).map hv)
  bl : Below w.heap.size w wr
theorem Hlf.step {w : World} {xs : List Nat} {i : Nat} {v v2 : Value} {wr w2 : World} {o : Obj} (h : Hlf w xs i v wr) (hown : w2.ownsRow w.heap.size 23 1 v2 (i + 1) ((halves xs i).map hv ++ [hv (hf xs i)])) (hg : (wr.alloc o).grownBy w2 v.ownBlock) : Hlf w xs (i + 1) v2 w2 := by
  refine ⟨?_, ?_⟩
  · rw [halves_succ]; simpa using hown
  · exact (h.bl.alloc h.bl.size o).grown hg (by have := h.bl.size; simp; omega) (own_base h.own)
/-- What Half leaves. -/
def RetH (w : World) (xs : List Nat) (n : Nat) (e : Ending) (w' : World) : Prop := ∃ v, e = .returned v ∧ w'.ownsRow w.heap.size 23 1 v n ((halves xs n).map hv) ∧ Below w.heap.size w w'
theorem half_cast (i : Nat) : (i : Int).tdiv 2 = ((i / 2 : Nat) : Int) := (Int.ofNat_tdiv i 2).symm
theorem rem_cast (i : Nat) : (i : Int).tmod 2 = ((i % 2 : Nat) : Int) := (Int.ofNat_tmod i 2).symm

set_option maxHeartbeats 2000000 in
set_option maxRecDepth 100000 in
theorem half_any {A : Option Addr} {m c n : Nat} {xs : List Nat} {w : World} (h : Lim w A m c xs) (hn : n ≤ 1000000) : Calls Try.prog 32 #[.slice A m c, .int .i64 (n : Int)] w fun e w' => RetH w xs n e w' := by
  have S0 : Hlf w xs 0 (.slice none 0 0) w := ⟨World.ownsRow_nil w _ _ _, Below.refl _ _⟩
  obtain ⟨i0, hi, hz0, hz1, hz2⟩ := info_parts info_u64
  have HI := Lib.hid hi; have HZ0 := Lib.hid hz0; have HZ1 := Lib.hid hz1; have HZ2 := Lib.hid hz2
  have H := Lib.hid h
  have HL := Lib.hid h.len
  clear h hi hz0 hz1 hz2
  go_enter Try.func32, Try.ntmps32
  go_wp2_with fail
  go_loopg [5, 6] n (fun q s5 s6 wr => ∃ i : Nat, i + q = n ∧ s6 = .int .i64 (i : Int) ∧ Hlf w xs i s5 wr)
  case atStart => exact ⟨0, by omega, rfl, S0⟩
  case round =>
    clear S0
    obtain ⟨i, hq, rfl, S⟩ := hrel
    have HQ := Lib.hid hq
    by_cases lt : i < n
    · have il : (i : Int) < n := by omega
      have SH := Lib.hid S
      have hb2 : w.heap.size ≤ wr.heap.size := S.bl.size
      have E1 := half_cast i
      have E2 := rem_cast i
      clear hq S
      by_cases hin : i / 2 < m
      · have hin' : ((i / 2 : Nat) : Int) < m := by omega
        have h00 : (0 : Int) ≤ ((i / 2 : Nat) : Int) := by omega
        have hx : i / 2 < xs.length := by rw [HL.out]; exact hin
        obtain ⟨ad, rfl, c1⟩ := (H.out.next SH.out.bl).at_ (i / 2) hx
        have EL := Lib.hid (lat_in hx)
        have bx := H.out.lo.at_ _ hx
        generalize xs[i / 2] = x at *
        by_cases ev : i % 2 = 0
        · have E3 : Hid (hv (hf xs i) = Value.int IntKind.u64 ((x : Int) % 65536)) := by
            unfold Hid; rw [hf_even _ _ ev, EL.out]; exact congrArg (Value.int .u64) (by omega)
          rw [ev] at E2
          go_wp2_with (at_builtin; refine wpList_append_own _ rfl _ _ 22 rfl w.heap.size 23 i0 (.int .u64 0) 1 8 Try.underlying22 HI.out HZ0.out HZ1.out HZ2.out rfl (by decide) _ i ((halves xs i).map hv) rfl (SH.out.own.alloc _) ⟨wr.heap.size, 0, none⟩ 1 1 [hv (hf xs i)] rfl rfl ?qc2 ?qc3 ?qc4 ?qc5 ?qc6 ?_)
          case qc2 => (rw [E3.out]; first | exact cell_one_new wr _ _ | exact fun _ _ h => h)
          case qc3 => first | (intro u hu; rw [List.mem_singleton] at hu; rw [hu]; rfl) | rfl
          case qc4 => unfold maxLen; omega
          case qc5 => omega
          case qc6 => first | omega | (simp; omega)
          intro v2 w2 hown hg _
          have STh := Lib.hid (SH.out.step (v2 := v2) (w2 := w2) hown hg)
          clear hown hg SH
          go_wp2_with fail
          go_roundg (gk - 1)
          case measure => have := HQ.out; omega
          case rel =>
            go_light
            exact ⟨i + 1, by have := HQ.out; omega, by go_num, STh.out⟩
        · have E3 : Hid (hv (hf xs i) = Value.int IntKind.u64 ((x : Int) / 65536)) := by
            unfold Hid; rw [hf_odd _ _ ev, EL.out]; exact congrArg (Value.int .u64) (by omega)
          rw [show i % 2 = 1 by omega] at E2
          go_wp2_with (at_builtin; refine wpList_append_own _ rfl _ _ 22 rfl w.heap.size 23 i0 (.int .u64 0) 1 8 Try.underlying22 HI.out HZ0.out HZ1.out HZ2.out rfl (by decide) _ i ((halves xs i).map hv) rfl (SH.out.own.alloc _) ⟨wr.heap.size, 0, none⟩ 1 1 [hv (hf xs i)] rfl rfl ?qc2 ?qc3 ?qc4 ?qc5 ?qc6 ?_)
          case qc2 => (rw [E3.out]; first | exact cell_one_new wr _ _ | exact fun _ _ h => h)
          case qc3 => first | (intro u hu; rw [List.mem_singleton] at hu; rw [hu]; rfl) | rfl
          case qc4 => unfold maxLen; omega
          case qc5 => omega
          case qc6 => first | omega | (simp; omega)
          intro v2 w2 hown hg _
          have STh := Lib.hid (SH.out.step (v2 := v2) (w2 := w2) hown hg)
          clear hown hg SH
          go_wp2_with fail
          go_roundg (gk - 1)
          case measure => have := HQ.out; omega
          case rel =>
            go_light
            exact ⟨i + 1, by have := HQ.out; omega, by go_num, STh.out⟩
      · have hin' : ¬ ((i / 2 : Nat) : Int) < m := by omega
        have hx : ¬ i / 2 < xs.length := by rw [HL.out]; exact hin
        have EL := Lib.hid (lat_out hx)
        by_cases ev : i % 2 = 0
        · have E3 : Hid (hv (hf xs i) = Value.int IntKind.u64 0) := by
            unfold Hid; rw [hf_even _ _ ev, EL.out]; rfl
          rw [ev] at E2
          go_wp2_with (at_builtin; refine wpList_append_own _ rfl _ _ 22 rfl w.heap.size 23 i0 (.int .u64 0) 1 8 Try.underlying22 HI.out HZ0.out HZ1.out HZ2.out rfl (by decide) _ i ((halves xs i).map hv) rfl (SH.out.own.alloc _) ⟨wr.heap.size, 0, none⟩ 1 1 [hv (hf xs i)] rfl rfl ?qc2 ?qc3 ?qc4 ?qc5 ?qc6 ?_)
          case qc2 => (rw [E3.out]; first | exact cell_one_new wr _ _ | exact fun _ _ h => h)
          case qc3 => first | (intro u hu; rw [List.mem_singleton] at hu; rw [hu]; rfl) | rfl
          case qc4 => unfold maxLen; omega
          case qc5 => omega
          case qc6 => first | omega | (simp; omega)
          intro v2 w2 hown hg _
          have STh := Lib.hid (SH.out.step (v2 := v2) (w2 := w2) hown hg)
          clear hown hg SH
          go_wp2_with fail
          go_roundg (gk - 1)
          case measure => have := HQ.out; omega
          case rel =>
            go_light
            exact ⟨i + 1, by have := HQ.out; omega, by go_num, STh.out⟩
        · have E3 : Hid (hv (hf xs i) = Value.int IntKind.u64 0) := by
            unfold Hid; rw [hf_odd _ _ ev, EL.out]; rfl
          rw [show i % 2 = 1 by omega] at E2
          go_wp2_with (at_builtin; refine wpList_append_own _ rfl _ _ 22 rfl w.heap.size 23 i0 (.int .u64 0) 1 8 Try.underlying22 HI.out HZ0.out HZ1.out HZ2.out rfl (by decide) _ i ((halves xs i).map hv) rfl (SH.out.own.alloc _) ⟨wr.heap.size, 0, none⟩ 1 1 [hv (hf xs i)] rfl rfl ?qc2 ?qc3 ?qc4 ?qc5 ?qc6 ?_)
          case qc2 => (rw [E3.out]; first | exact cell_one_new wr _ _ | exact fun _ _ h => h)
          case qc3 => first | (intro u hu; rw [List.mem_singleton] at hu; rw [hu]; rfl) | rfl
          case qc4 => unfold maxLen; omega
          case qc5 => omega
          case qc6 => first | omega | (simp; omega)
          intro v2 w2 hown hg _
          have STh := Lib.hid (SH.out.step (v2 := v2) (w2 := w2) hown hg)
          clear hown hg SH
          go_wp2_with fail
          go_roundg (gk - 1)
          case measure => have := HQ.out; omega
          case rel =>
            go_light
            exact ⟨i + 1, by have := HQ.out; omega, by go_num, STh.out⟩
    · obtain rfl : n = i := by omega
      have il : ¬ (n : Int) < n := by omega
      have S := Lib.hid S
      clear hq lt
      go_wp2_with fail
      go_ret
      exact ⟨_, rfl, S.out.own, S.out.bl⟩

/-- What is in the first loop of Whole. -/
structure Whl (w : World) (hs : List Nat) (k : Nat) (v : Value) (wr : World) : Prop where
  ps : ∃ ps, ps.length = k ∧ Lo ps ∧ val ps = hval (hs.take (2 * k)) ∧ wr.ownsRow w.heap.size 48 1 v k (ps.map lv)
  bl : Below w.heap.size w wr
theorem Whl.step {w : World} {hs : List Nat} {k : Nat} {v v2 : Value} {wr w2 : World} {o : Obj} {ps : List Nat} (pl : ps.length = k) (plo : Lo ps) (pv : val ps = hval (hs.take (2 * k))) (po : wr.ownsRow w.heap.size 48 1 v k (ps.map lv)) (bl : Below w.heap.size w wr)
    (ld : Ld hs) (hk : 2 * k + 1 < hs.length) (hown : w2.ownsRow w.heap.size 48 1 v2 (k + 1) (ps.map lv ++ [lv (hs[2 * k] + 65536 * hs[2 * k + 1])])) (hg : (wr.alloc o).grownBy w2 v.ownBlock) : Whl w hs (k + 1) v2 w2 := by
  have b1 := ld.at_ (2 * k) (by omega)
  have b2 := ld.at_ (2 * k + 1) hk
  refine ⟨⟨ps ++ [hs[2 * k] + 65536 * hs[2 * k + 1]], by simp [pl], plo.append (.cons (by omega) .nil), ?_, by simpa using hown⟩, ?_⟩
  · rw [val_snoc, pl, pv, hval_two hs k hk]
  · exact (bl.alloc bl.size o).grown hg (by have := bl.size; simp; omega) (own_base po)

set_option maxHeartbeats 2000000 in
set_option maxRecDepth 100000 in
theorem whole_any {A : Option Addr} {n c : Nat} {hs : List Nat} {w : World} (h : Hl w A (2 * n) hs) (ld : Ld hs) (hn : n ≤ 1000000) : Calls Try.prog 24 #[.slice A (2 * n) c] w fun e w' => RetN (hval hs) w e w' := by
  have S0 : Whl w hs 0 (.slice none 0 0) w := ⟨⟨[], rfl, .nil, rfl, World.ownsRow_nil w _ _ _⟩, Below.refl _ _⟩
  obtain ⟨i0, hi, hz0, hz1, hz2⟩ := info_parts info_u32
  have HI := Lib.hid hi; have HZ0 := Lib.hid hz0; have HZ1 := Lib.hid hz1; have HZ2 := Lib.hid hz2
  have H := Lib.hid h; have LD := Lib.hid ld
  have HL := Lib.hid h.len
  clear h hi hz0 hz1 hz2 ld
  generalize hN : 2 * n = N at *
  have HN := Lib.hid hN
  have hN2 : N ≤ 2000000 := by omega
  clear hN
  go_enter Try.func24, Try.ntmps24
  go_wp2_with fail
  go_loopg [3, 4] n (fun q s3 s4 wr => ∃ i k : Nat, k + q = n ∧ s4 = .int .i64 (i : Int) ∧ Hid (i = 2 * k) ∧ Whl w hs k s3 wr)
  case atStart => exact ⟨0, 0, by omega, rfl, rfl, S0⟩
  case round =>
    clear S0
    obtain ⟨i, k, hq, rfl, ei, S⟩ := hrel
    have HQ := Lib.hid hq
    by_cases lt : k < n
    · have i1 : i + 1 < N := by have := HN.out; have := ei.out; omega
      have i1l : i + 1 < hs.length := by rw [HL.out]; exact i1
      have il : (i : Int) < N := by omega
      have il1 : (i : Int) + 1 < N := by omega
      have il0 : (0 : Int) ≤ i := by omega
      have il2 : (0 : Int) ≤ (i : Int) + 1 := by omega
      obtain ⟨ps, pl, plo, pv, po⟩ := S.ps
      have c1 : ∃ ad x, A = some ad ∧ x < 65536 ∧ hs[i]? = some x ∧ wr.cell? (ad.add i) = some (.int .u64 (x : Int)) := by
        obtain ⟨ad, e, hc⟩ := H.out.at_ i (by omega)
        exact ⟨ad, _, e, LD.out.at_ i (by omega), List.getElem?_eq_getElem _, keep_cell S.bl hc⟩
      obtain ⟨ad, x, rfl, bx, ex, c1⟩ := c1
      have c2 : ∃ y, y < 65536 ∧ hs[i + 1]? = some y ∧ wr.cell? ⟨ad.block, ad.off + (i + 1), none⟩ = some (.int .u64 (y : Int)) := by
        obtain ⟨ad, e, hc⟩ := H.out.at_ (i + 1) i1l
        injection e with e
        subst e
        have e1 : ad.add (i + 1) = ⟨ad.block, ad.off + (i + 1), none⟩ := by unfold Addr.add; rw [if_neg (by omega)]
        rw [e1] at hc
        exact ⟨_, LD.out.at_ (i + 1) i1l, List.getElem?_eq_getElem _, keep_cell S.bl hc⟩
      obtain ⟨y, bY, ey, c2⟩ := c2
      have hb2 : w.heap.size ≤ wr.heap.size := S.bl.size
      have KS : Hid (∀ (v2 : Value) (w2 : World) (o : Obj), w2.ownsRow w.heap.size 48 1 v2 (k + 1) (ps.map lv ++ [lv (x + 65536 * y)]) → (wr.alloc o).grownBy w2 (Value.ownBlock u3) → Whl w hs (k + 1) v2 w2) := by
        intro v2 w2 o h1 h2
        have e := ei.out
        subst e
        refine Whl.step pl plo pv po S.bl LD.out i1l ?_ h2
        rw [(List.getElem?_eq_some_iff.1 ex).2, (List.getElem?_eq_some_iff.1 ey).2]
        exact h1
      have PO := Lib.hid po
      have E3 : Hid (lv (x + 65536 * y) = Value.int IntKind.u32 ((x : Int) + 65536 * (y : Int))) := congrArg (Value.int .u32) (by omega)
      have EI : Hid (i + 2 = 2 * (k + 1)) := by unfold Hid; rw [ei.out]; omega
      clear hq S pl plo pv po ex ey ei
      go_wp2_with (at_builtin; refine wpList_append_own _ rfl _ _ 25 rfl w.heap.size 48 i0 (.int .u32 0) 1 4 Try.underlying25 HI.out HZ0.out HZ1.out HZ2.out rfl (by decide) _ k (ps.map lv) rfl (PO.out.alloc _) ⟨wr.heap.size, 0, none⟩ 1 1 [lv (x + 65536 * y)] rfl rfl ?qc2 ?qc3 ?qc4 ?qc5 ?qc6 ?_)
      case qc2 => (rw [E3.out]; first | exact cell_one_new wr _ _ | exact fun _ _ h => h)
      case qc3 => first | (intro u hu; rw [List.mem_singleton] at hu; rw [hu]; rfl) | rfl
      case qc4 => unfold maxLen; omega
      case qc5 => omega
      case qc6 => first | omega | (simp; omega)
      intro v2 w2 hown hg _
      have STh := Lib.hid (KS.out v2 w2 _ hown hg)
      clear hown hg
      go_wp2_with fail
      go_roundg (gk - 1)
      case measure => have := HQ.out; omega
      case rel =>
        go_light
        exact ⟨i + 2, k + 1, by have := HQ.out; omega, by go_num, EI, STh.out⟩
    · obtain rfl : n = k := by omega
      have eN : i = N := by rw [ei.out, HN.out]
      have il : ¬ (i : Int) < N := by omega
      obtain ⟨ps, pl, plo, pv, po⟩ := S.ps
      obtain ⟨A2, c2, rfl, L2⟩ := own_lim po plo
      rw [HN.out, List.take_of_length_le (by rw [HL.out]; exact Nat.le_refl _)] at pv
      have PV := Lib.hid pv; have L := Lib.hid L2; have BL := Lib.hid S.bl
      have hc := L2.cap; have ht := L2.top
      clear hq S pl plo pv po L2 HQ lt eN
      go_wp2_with fail
      go_loopg [3] n (fun g s3 wq => g ≤ n ∧ s3 = .slice A2 g c2 ∧ Hid (val (ps.take g) = val ps) ∧ wr = wq)
      case atStart => exact ⟨Nat.le_refl _, rfl, by unfold Hid; rw [List.take_of_length_le (by rw [L.out.len]; exact Nat.le_refl _)], rfl⟩
      case round =>
        obtain ⟨hg, rfl, hvv, rfl⟩ := hrel
        have HT := Lib.hid (L.out.take hg)
        by_cases hz : gk = 0
        · subst hz
          have HV : Hid (limbs (hval hs) = []) := by unfold Hid; rw [← PV.out, ← hvv.out]; simp [val_nil, limbs_zero]
          go_wp2_with fail
          go_ret
          exact ⟨_, 0, _, rfl, by rw [HV.out]; exact Lim.none_ _ _ _ (by omega), BL.out⟩
        · obtain ⟨k, rfl⟩ : ∃ k, gk = k + 1 := ⟨gk - 1, by omega⟩
          obtain ⟨ad, rfl⟩ := L.out.some_ (by omega)
          have hkx : k < ps.length := by rw [L.out.len]; omega
          have hcell := L.out.cell k hkx
          by_cases hx : ps[k] = 0
          · have HV : Hid (val (ps.take k) = val ps) := by
              unfold Hid; rw [← hvv.out, val_take_succ ps k hkx, hx, Nat.mul_zero, Nat.add_zero]
            rw [hx] at hcell
            clear hx hvv HT
            go_wp2_with fail
            go_roundg k
            case measure => omega
            case rel => exact ⟨by omega, rfl, HV, rfl⟩
          · have HV : Hid (limbs (hval hs) = ps.take (k + 1)) := by
              unfold Hid
              rw [← PV.out, ← hvv.out]
              refine limbs_val (L.out.lo.take _) (getLast_ne (x := ps[k]) ?_ hx)
              rw [List.length_take, Nat.min_eq_left (by omega), Nat.add_sub_cancel, List.getElem?_take, if_pos (by omega), List.getElem?_eq_getElem hkx]
            generalize ps[k] = x at *
            have h2 : ((x : Int) == 0) = false := by simpa using hx
            clear hx hvv
            go_wp2_with fail
            go_ret
            exact ⟨_, _, _, rfl, by rw [HV.out]; exact HT.out, BL.out⟩
end Go.Proofs.Ythhphbaimpcjfaa
