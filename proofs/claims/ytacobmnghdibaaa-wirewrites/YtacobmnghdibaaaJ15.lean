/- Arguments opened; the rows' last step. Plain: what is read lies within the bytes; fractions that are read would be written so. The document's answers: the walk of ReadRat. -/
import Derived.Test.YtacobmnghdibaaaJ14
import Derived.ProofKit
import Derived.OpenShut
import Derived.Carry
import Derived.Lay
import Derived.ChangeMaps5
import Derived.Lib.SmallJoins
import Derived.Deep.SlicePairs
import Derived.Test.YtacobmnghdibaaaJ13
import Derived.Test.YtacobmnghdibaaaJ06
namespace Go.Proofs.Ytacobmnghdibaaa
open Go.RowKit Go.ChangeShapes Go.WideShapes Go.ChangeAt Go.Joins
set_option linter.unusedSimpArgs false
set_option linter.unusedVariables false
theorem own : ownKnob Try.prog.godebug = none := by kernel_rfl
theorem laidOut : laidOutB Try.prog = true := by kernel_rfl
theorem cells_u32 : Try.prog.cellsOf 62 = 1 := by kernel_rfl
theorem cells_rat : Try.prog.cellsOf 26 = 2 := by kernel_rfl
theorem cells_wide : Try.prog.cellsOf 28 = 2 := by kernel_rfl
theorem cells_ask : Try.prog.cellsOf 44 = 2 := by kernel_rfl
theorem readable_u64 : Try.prog.readableRec 22 = true := by kernel_rfl
theorem typed_u64 : 22 < Try.prog.types.size := of_decide_eq_true (by kernel_rfl)
theorem readable_str : Try.prog.readableRec 9 = true := by kernel_rfl
theorem typed_str : 9 < Try.prog.types.size := of_decide_eq_true (by kernel_rfl)
theorem readable_nat : Try.prog.readableRec 24 = true := by kernel_rfl
theorem typed_nat : 24 < Try.prog.types.size := of_decide_eq_true (by kernel_rfl)
theorem readable_rat : Try.prog.readableRec 26 = true := by kernel_rfl
theorem typed_rat : 26 < Try.prog.types.size := of_decide_eq_true (by kernel_rfl)
theorem readable_wide : Try.prog.readableRec 28 = true := by kernel_rfl
theorem typed_wide : 28 < Try.prog.types.size := of_decide_eq_true (by kernel_rfl)
theorem readable_int : Try.prog.readableRec 3 = true := by kernel_rfl
theorem typed_int : 3 < Try.prog.types.size := of_decide_eq_true (by kernel_rfl)
theorem readable_bool : Try.prog.readableRec 4 = true := by kernel_rfl
theorem typed_bool : 4 < Try.prog.types.size := of_decide_eq_true (by kernel_rfl)
theorem readable_asks : Try.prog.readableRec 38 = true := by kernel_rfl
theorem typed_asks : 38 < Try.prog.types.size := of_decide_eq_true (by kernel_rfl)
section
variable {H : Type} {enc : TypeId × Value → H} {W : World} {base : Nat} {v : Value} {d : DataW H} {p : List MemPlace}
set_option maxRecDepth 100000 in
theorem open_nat (hv : Value.okWide Try.prog W .any base 24 v)
    (h : DataW.Trod enc Try.prog W 0 (fun _ => true) true 24 v d p) : ∃ A n c xs, v = .slice A n c ∧ Lim W A n c xs := by
  obtain ⟨A, n, c, rfl⟩ := okWide_slice Try.underlying24 hv
  obtain ⟨fuel, hf⟩ := h
  rcases open_ints Try.underlying24 Try.underlying62 cells_u32 hf with ⟨hcs, hx⟩ | ⟨a, len, cap, zs, hcs, _, hle, hmax, hall, hx, hcell, hwf⟩
  · simp [Value.cells] at hcs
    obtain ⟨rfl, rfl, rfl⟩ := hcs
    exact ⟨none, 0, 0, [], rfl, Lim.none_ _ _ _ (Nat.zero_le _)⟩
  · simp [Value.cells] at hcs
    obtain ⟨rfl, rfl, rfl⟩ := hcs
    simp only [if_true] at hall
    unfold maxLen at hmax
    refine ⟨_, _, _, (zs.take n).map Int.toNat, rfl, by simp; omega, hle, hmax, fun j hj => ⟨_, rfl, ?_⟩, ?_⟩
    · have hj' : j < n ∧ j < zs.length := by simp at hj; omega
      rw [hcell j hj'.2]
      have hb := bounds_u32 (hwf _ (List.getElem_mem hj'.2))
      have e : zs.getD j 0 = zs[j] := by simp [List.getD, List.getElem?_eq_getElem hj'.2]
      rw [e]
      simp only [List.getElem_map, List.getElem_take]
      exact congrArg (fun z => some (Value.int .u32 z)) (by omega)
    · intro x hx
      rw [List.mem_map] at hx
      obtain ⟨z, hz, rfl⟩ := hx
      have hb := bounds_u32 (hwf z (List.mem_of_mem_take hz))
      omega
set_option maxRecDepth 100000 in
theorem open_u64 (hv : Value.okWide Try.prog W .any base 22 v) (h : DataW.Trod enc Try.prog W 0 (fun _ => true) true 22 v d p) : ∃ n : Nat, v = .int .u64 (n : Int) ∧ n < 18446744073709551616 := by
  obtain ⟨x, rfl, rfl, rfl, wx⟩ := open_int Try.underlying22 hv h
  obtain ⟨a, b⟩ := bounds_u64 wx
  exact ⟨x.toNat, by rw [Int.toNat_of_nonneg a], by omega⟩
set_option maxRecDepth 100000 in
theorem open_i64 (hv : Value.okWide Try.prog W .any base 3 v) (h : DataW.Trod enc Try.prog W 0 (fun _ => true) true 3 v d p) : ∃ x : Int, v = .int .i64 x ∧ -9223372036854775808 ≤ x ∧ x ≤ 9223372036854775807 := by
  obtain ⟨x, rfl, rfl, rfl, wx⟩ := open_int Try.underlying3 hv h
  exact ⟨x, rfl, bounds_i64 wx⟩
set_option maxRecDepth 100000 in
theorem open_wide (hv : Value.okWide Try.prog W .any base 28 v) (h : DataW.Trod enc Try.prog W 0 (fun _ => true) true 28 v d p) : ∃ x y : Nat, v = .agg #[.int .u64 (x : Int), .int .u64 (y : Int)] ∧ x < 18446744073709551616 ∧ y < 18446744073709551616 := by
  obtain ⟨c0, c1, y0, y1, m, rfl, rfl, rfl, hy0, hy1⟩ := open_agg2 Try.underlying28 (by kernel_rfl) cells_wide hv h
  obtain ⟨a, e0, rfl, wa⟩ := DataW.trod_int Try.underlying22 hy0
  obtain ⟨b, e1, rfl, wb⟩ := DataW.trod_int Try.underlying22 hy1
  simp at e0 e1
  subst e0 e1
  have x1 := bounds_u64 wa
  have x2 := bounds_u64 wb
  exact ⟨a.toNat, b.toNat, by rw [Int.toNat_of_nonneg x1.1, Int.toNat_of_nonneg x2.1], by omega, by omega⟩
/-- The slice at A of length n reads as the asks ks. -/
structure Asks (w : World) (A : Option Addr) (n c : Nat) (ks : List (Int × Int)) : Prop where
  len : ks.length = n
  cap : n ≤ c
  top : c ≤ 9223372036854775807
  at_ : ∀ j (h : j < ks.length), ∃ ad, A = some ad ∧ w.cell? (ad.add (j * 2)) = some (.int .i64 ks[j].1) ∧ w.cell? (ad.add (j * 2 + 1)) = some (.int .i64 ks[j].2)
  sz : ∀ k ∈ ks, -9223372036854775808 ≤ k.2 ∧ k.2 ≤ 9223372036854775807
theorem Asks.next {w w' : World} {A : Option Addr} {n c : Nat} {ks : List (Int × Int)} (h : Asks w A n c ks) (hb : Below w.heap.size w w') : Asks w' A n c ks :=
  ⟨h.len, h.cap, h.top, fun j hj => by
    obtain ⟨ad, e, hc, hd⟩ := h.at_ j hj
    exact ⟨ad, e, keep_cell hb hc, keep_cell hb hd⟩, h.sz⟩
set_option maxRecDepth 100000 in
theorem open_asks (hv : Value.okWide Try.prog W .any base 38 v) (h : DataW.Trod enc Try.prog W 0 (fun _ => true) true 38 v d p) : ∃ A n c ks, v = .slice A n c ∧ Asks W A n c ks := by
  obtain ⟨A, n, c, rfl⟩ := okWide_slice Try.underlying38 hv
  obtain ⟨fuel, hf⟩ := h
  rcases Go.Deep.open_slice_pairs Try.underlying38 Try.underlying44 cells_ask rfl rfl (by kernel_rfl) (by kernel_rfl) hf with ⟨hcs, hx⟩ | ⟨a, len, cap, m, nn, V0, V1, D0, D1, P0, P1, hcs, _, hle, hmax, hm, hx, hcell⟩
  · simp [Value.cells] at hcs
    obtain ⟨rfl, rfl, rfl⟩ := hcs
    exact ⟨none, 0, 0, [], rfl, rfl, Nat.le_refl _, Nat.zero_le _, fun j hj => absurd hj (by simp), fun s hs => absurd hs (by simp)⟩
  · simp [Value.cells] at hcs
    obtain ⟨rfl, rfl, rfl⟩ := hcs
    simp only [if_true] at hm
    subst hm
    unfold maxLen at hmax
    have each : ∀ i, i < n → ∃ x y : Int, W.cell? (a.add (i * 2)) = some (.int .i64 x) ∧ W.cell? (a.add (i * 2 + 1)) = some (.int .i64 y) ∧ -9223372036854775808 ≤ y ∧ y ≤ 9223372036854775807 := by
      intro i hi
      obtain ⟨h1, h2, h3, h4⟩ := hcell i (by omega)
      obtain ⟨x, e0, _, w0⟩ := DataW.trod_int Try.underlying3 h3
      obtain ⟨y, e1, _, w1⟩ := DataW.trod_int Try.underlying2 h4
      simp at e0 e1
      rw [e0] at h1
      rw [e1] at h2
      have b1 := bounds_i64 w1
      exact ⟨x, y, h1, h2, b1.1, b1.2⟩
    let f : Nat → Int × Int := fun i => open Classical in if h : i < n then (Classical.choose (each i h), Classical.choose (Classical.choose_spec (each i h))) else (0, 0)
    have hfi : ∀ i (h : i < n), f i = (Classical.choose (each i h), Classical.choose (Classical.choose_spec (each i h))) := fun i h => dif_pos h
    refine ⟨_, _, _, (List.range n).map f, rfl, by simp, hle, hmax, fun j hj => ⟨_, rfl, ?_⟩, fun k hk => ?_⟩
    · have hj' : j < n := by simpa using hj
      have sp := Classical.choose_spec (Classical.choose_spec (each j hj'))
      simp only [List.getElem_map, List.getElem_range, hfi j hj']
      exact ⟨sp.1, sp.2.1⟩
    · rw [List.mem_map] at hk
      obtain ⟨j, hj, rfl⟩ := hk
      have hj' : j < n := by simpa using hj
      have sp := Classical.choose_spec (Classical.choose_spec (each j hj'))
      rw [hfi j hj']
      exact ⟨sp.2.2.1, sp.2.2.2⟩
end
set_option maxRecDepth 100000 in
theorem open_natf {H : Type} {enc : TypeId × Value → H} {W : World} {v : Value} {fuel : Nat} {y : DataW H × List MemPlace}
    (hf : DataW.trod enc Try.prog W 0 (fun _ => true) true fuel 24 [v] = some y) : ∃ A n c xs, v = .slice A n c ∧ Lim W A n c xs := by
  rcases open_ints Try.underlying24 Try.underlying62 cells_u32 hf with ⟨hcs, hx⟩ | ⟨a, len, cap, zs, hcs, _, hle, hmax, hall, hx, hcell, hwf⟩
  · simp at hcs
    subst hcs
    exact ⟨none, 0, 0, [], rfl, Lim.none_ _ _ _ (Nat.zero_le _)⟩
  · simp at hcs
    subst hcs
    simp only [if_true] at hall
    unfold maxLen at hmax
    refine ⟨_, _, _, (zs.take len).map Int.toNat, rfl, by simp; omega, hle, hmax, fun j hj => ⟨_, rfl, ?_⟩, ?_⟩
    · have hj' : j < len ∧ j < zs.length := by simp at hj; omega
      rw [hcell j hj'.2]
      have hb := bounds_u32 (hwf _ (List.getElem_mem hj'.2))
      have e : zs.getD j 0 = zs[j] := by simp [List.getD, List.getElem?_eq_getElem hj'.2]
      rw [e]
      simp only [List.getElem_map, List.getElem_take]
      exact congrArg (fun z => some (Value.int .u32 z)) (by omega)
    · intro x hx
      rw [List.mem_map] at hx
      obtain ⟨z, hz, rfl⟩ := hx
      have hb := bounds_u32 (hwf z (List.mem_of_mem_take hz))
      omega
set_option maxRecDepth 100000 in
/-- An argument that is a pair of limbs, opened. -/
theorem open_rat {H : Type} {enc : TypeId × Value → H} {W : World} {base : Nat} {v : Value} {d : DataW H} {p : List MemPlace} (hv : Value.okWide Try.prog W .any base 26 v)
    (h : DataW.Trod enc Try.prog W 0 (fun _ => true) true 26 v d p) : ∃ A n c xs A' n' c' ys, v = .agg #[.slice A n c, .slice A' n' c'] ∧ Lim W A n c xs ∧ Lim W A' n' c' ys := by
  obtain ⟨c0, c1, y0, y1, m, rfl, rfl, rfl, hy0, hy1⟩ := open_agg2 Try.underlying26 (by kernel_rfl) cells_rat hv h
  obtain ⟨A, n, c, xs, rfl, l⟩ := open_natf hy0
  obtain ⟨A', n', c', ys, rfl, l'⟩ := open_natf hy1
  exact ⟨A, n, c, xs, A', n', c', ys, rfl, l, l'⟩
section
variable {H : Type} {enc : TypeId × Value → H} {P : Program}
/-- The row's last step: the arguments read as they did. -/
theorem post_args {f : Func} {s : ChangeSpec} {apart : Bool} {W W' : World} {args : Array Value} {v : Value} {ds gs : List (DataW H)} {before : List MemPlace}
    (hW : DataW.Whole enc P f.params.toList s.vars apart W args.toList ds gs before)
    (hres : ∀ (b : Nat) (sp : Nat → Bool) (hd : Bool), DataW.TrodAll enc P W' b sp hd f.resultTypes.toList (v.resultList f.resultTypes.size) (s.fn H (ds ++ gs)).results [])
    (hargs : DataW.TrodAll enc P W' 0 (fun b => decide (b < W.heap.size)) true f.params.toList args.toList (s.fn H (ds ++ gs)).args before)
    (hvars : ∀ sp : Nat → Bool, DataW.TrodVars enc P W' sp s.vars (s.fn H (ds ++ gs)).vars [])
    (hb : Below W.heap.size W W') : s.post enc P f apart true false false W args v W' :=
  ⟨ds, gs, before, [], before, [], hW, hres _ _ _, hargs, hvars _, hb.frame _, fun h => by cases h⟩
end
section
variable {H : Type} {enc : TypeId × Value → H} {P : Program} {w : World} {base : Nat} {spare : Nat → Bool} {held : Bool}
theorem trodAll_five {t t' t'' t3 t4 : TypeId} {args : Array Value} {ds : List (DataW H)} {ps : List MemPlace} (h : DataW.TrodAll enc P w base spare held [t, t', t'', t3, t4] args.toList ds ps) :
    ∃ v v' v'' v3 v4 d d' d'' d3 d4 p p' p'' p3 p4, args = #[v, v', v'', v3, v4] ∧ ds = [d, d', d'', d3, d4] ∧ ps = p ++ p' ++ p'' ++ p3 ++ p4 ∧ DataW.Trod enc P w base spare held t v d p ∧ DataW.Trod enc P w base spare held t' v' d' p' ∧ DataW.Trod enc P w base spare held t'' v'' d'' p'' ∧ DataW.Trod enc P w base spare held t3 v3 d3 p3 ∧ DataW.Trod enc P w base spare held t4 v4 d4 p4 := by
  obtain ⟨v, vs, d, ds', p, q, hargs, rfl, rfl, hd, hrest⟩ := trodAll_cons h
  obtain ⟨v', v'', v3, v4, d', d'', d3, d4, p', p'', p3, p4, e1, rfl, rfl, h1, h2, h3, h4⟩ := trodAll_four (args := vs.toArray) (by simpa using hrest)
  have e2 : vs = [v', v'', v3, v4] := by simpa using congrArg Array.toList e1
  subst e2
  exact ⟨v, v', v'', v3, v4, d, d', d'', d3, d4, p, p', p'', p3, p4, by cases args; simp_all, rfl, by simp, hd, h1, h2, h3, h4⟩
theorem trodAll_mk5 {t t' t'' t3 t4 : TypeId} {v v' v'' v3 v4 : Value} {d d' d'' d3 d4 : DataW H} {p p' p'' p3 p4 : List MemPlace} (h : DataW.Trod enc P w base spare held t v d p) (h' : DataW.Trod enc P w base spare held t' v' d' p')
    (h'' : DataW.Trod enc P w base spare held t'' v'' d'' p'') (h3 : DataW.Trod enc P w base spare held t3 v3 d3 p3) (h4 : DataW.Trod enc P w base spare held t4 v4 d4 p4) : DataW.TrodAll enc P w base spare held [t, t', t'', t3, t4] [v, v', v'', v3, v4] [d, d', d'', d3, d4] (p ++ (p' ++ (p'' ++ (p3 ++ p4)))) := ⟨p, p' ++ (p'' ++ (p3 ++ p4)), h, trodAll_mk4 h' h'' h3 h4, rfl⟩
end
end Go.Proofs.Ytacobmnghdibaaa
namespace Go.Proofs.Ytacobmnghdibaaa
open Go.RowKit
set_option linter.unusedVariables false
set_option linter.unusedSimpArgs false
theorem readN_le {s : ByteArray} {most n k : Nat} (h : readN s 0 false most = some (n, k)) : k ≤ s.size := by
  rw [readN_numM] at h
  split at h
  · have := (numM_le h).1
    rw [L_len] at this
    exact Nat.le_trans this (restB_size s 0 false)
  · cases h
theorem readT_le {s : ByteArray} {most : Int} {n k : Nat} (h : readT s 0 false most = some (n, k)) : k + n ≤ s.size := by
  rw [readT_textM] at h
  split at h
  · have := textM_le h
    rw [L_len] at this
    exact Nat.le_trans this (restB_size s 0 false)
  · cases h
theorem readW_le {s : ByteArray} (h : readW s 0 false = some 16) : 16 ≤ s.size := by
  rw [readW_wideM] at h
  split at h
  · have := wideM_le h
    exact Nat.le_trans this (restB_size s 0 false)
  · cases h
theorem frB_fr {xs ys : List Nat} (h : frB xs ys = true) : Fr xs ys := by
  apply Classical.byContradiction
  intro n
  rw [frB_no n] at h
  cases h
/-- Two naturals, one behind the other. -/
theorem readQ_two {s : ByteArray} {i : Nat} {xs ys : List Nat} {k : Nat} (h : readQ s i false = some (xs, ys, k)) :
    ∃ k1 k2, k = k1 + k2 ∧ readA s i false = some (xs, k1) ∧ readA s ((i + k1 : Nat) : Int) false = some (ys, k2) ∧ Fr xs ys := by
  rw [readQ_ratM] at h
  split at h
  · rename_i ok
    obtain ⟨_, j, hj, hle⟩ := okR_yes ok
    have hj' : i = j := by omega
    subst hj'
    unfold ratM at h
    split at h
    · rename_i xs1 k1 h1
      have le1 := natM_le h1
      rw [L_len] at le1
      have rs : (restB s i false).size = s.size - i := by rw [restB_yes hle, ByteArray.size_extract]; omega
      split at h
      · rename_i ys2 k2 h2
        split at h
        · rename_i hf
          injection h with h
          simp only [Prod.mk.injEq] at h
          obtain ⟨rfl, rfl, rfl⟩ := h
          refine ⟨k1, k2, rfl, ?_, ?_, frB_fr hf⟩
          · rw [readA_natM, ok, if_pos rfl, h1]
          · have ok2 : okR s.size ((i + k1 : Nat) : Int) false = true := okR_at (by omega)
            rw [readA_natM, ok2, if_pos rfl, restB_L (by omega), ← h2, restB_L hle, List.drop_drop]
        · cases h
      · cases h
    · cases h
  · cases h
/-- A fraction that is read, anywhere, is one, and lies there as it would be written. -/
theorem readQ_there {s : ByteArray} {i k : Nat} {xs ys : List Nat} (h : readQ s i false = some (xs, ys, k)) : natS xs ++ natS ys = ((L s).drop i).take k ∧ Fr xs ys ∧ i + k ≤ s.size := by
  obtain ⟨k1, k2, rfl, h1, h2, hf⟩ := readQ_two h
  obtain ⟨a1, a2, a3, a4, a5⟩ := readA_there h1
  obtain ⟨b1, b2, b3, b4, b5⟩ := readA_there h2
  refine ⟨?_, hf, by omega⟩
  rw [a1, b1, ← List.drop_drop, List.take_add]
end Go.Proofs.Ytacobmnghdibaaa
namespace Go.Proofs.Ytacobmnghdibaaa
open Go.RowKit
set_option linter.unusedVariables false
set_option linter.unusedSimpArgs false
set_option maxHeartbeats 2000000
set_option maxRecDepth 100000
theorem readQ_no1 {s : ByteArray} {p : Int} {lo : Bool} (h : readA s p lo = none) : readQ s p lo = none := by
  rw [readQ_ratM]
  rw [readA_natM] at h
  by_cases ok : okR s.size p lo = true
  · rw [if_pos ok] at h ⊢
    exact ratM_no1 h
  · rw [if_neg ok]
/-- What the second natural makes of the first one. -/
theorem readQ_next {s : ByteArray} {p : Int} {lo : Bool} {xs : List Nat} {k : Nat} (h : readA s p lo = some (xs, k)) :
    (readA s (p + k) false = none → readQ s p lo = none) ∧ ∀ ys k2, readA s (p + k) false = some (ys, k2) → (frB xs ys = false → readQ s p lo = none) ∧ (frB xs ys = true → readQ s p lo = some (xs, ys, k + k2)) := by
  rw [readA_natM] at h
  by_cases ok : okR s.size p lo = true
  · rw [if_pos ok] at h
    obtain ⟨rfl, i, rfl, hi⟩ := okR_yes ok
    have le := natM_le h
    rw [L_len] at le
    have rs : (restB s i false).size = s.size - i := by rw [restB_yes hi, ByteArray.size_extract]; omega
    have ok2 : okR s.size ((i + k : Nat) : Int) false = true := okR_at (by omega)
    have e2 : readA s ((i : Int) + k) false = natM ((L (restB s i false)).drop k) := by
      rw [show (i : Int) + k = ((i + k : Nat) : Int) from rfl, readA_natM, ok2, if_pos rfl, restB_L (by omega), restB_L hi, List.drop_drop]
    rw [readQ_ratM, if_pos ok, e2]
    refine ⟨fun x => ratM_no2 h x, fun ys k2 x => ⟨fun y => ratM_no3 h x y, fun y => ratM_yes h x y⟩⟩
  · rw [if_neg ok] at h; cases h
/-- What ReadRat answers. -/
def RetQ8 (s : ByteArray) (p : Int) (x : Option (List Nat × List Nat × Nat)) (w : World) (e : Ending) (w' : World) : Prop :=
  ∃ A n c A' n' c', e = .returned (.tuple #[.agg #[.slice A n c, .slice A' n' c'], rdo s p (x.map fun y => y.2.2)]) ∧ Lim w' A n c ((x.map fun y => y.1).getD []) ∧ Lim w' A' n' c' ((x.map fun y => y.2.1).getD []) ∧ Below w.heap.size w w'
theorem RetQ8.none_ {s : ByteArray} {p : Int} {w w' : World} (h : Below w.heap.size w w') : RetQ8 s p none w (.returned (.tuple #[.agg #[.slice none 0 0, .slice none 0 0], rd s p true])) w' :=
  ⟨none, 0, 0, none, 0, 0, rfl, Lim.none_ _ _ _ (by decide), Lim.none_ _ _ _ (by decide), h⟩
/-- Limbs stay where another thing's cells are written. -/
theorem Lim.box {W : World} {A : Option Addr} {n c q : Nat} {xs : List Nat} {cs : Array Value} (h : Lim W A n c xs) (hq : Box W q cs) (hc : ∀ (i : Nat) (x : Nat), cs[i]? ≠ some (lv x)) (i : Nat) (u : Value) : Lim (W.setCell ⟨q, i, none⟩ u) A n c xs :=
  ⟨h.len, h.cap, h.top, fun j hj => by
    obtain ⟨ad, e, hcell⟩ := h.at_ j hj
    refine ⟨ad, e, keep_set hcell u fun hb => ?_⟩
    obtain ⟨t, hh⟩ := hq
    have hb' : (ad.add j).block = q := hb
    unfold World.cell? at hcell
    rw [hb', hh] at hcell
    simp only at hcell
    split at hcell
    · cases hcell
    · exact hc _ _ hcell, h.lo⟩
theorem no_lv2 {a b : Value} (ha : ∀ x : Nat, a ≠ lv x) (hb : ∀ x : Nat, b ≠ lv x) : ∀ (i : Nat) (x : Nat), (#[a, b] : Array Value)[i]? ≠ some (lv x) := by
  intro i x h
  match i with
  | 0 => simp at h; exact ha x h
  | 1 => simp at h; exact hb x h
  | i + 2 => simp at h
theorem no_lv3 {a b c : Value} (ha : ∀ x : Nat, a ≠ lv x) (hb : ∀ x : Nat, b ≠ lv x) (hc : ∀ x : Nat, c ≠ lv x) : ∀ (i : Nat) (x : Nat), (#[a, b, c] : Array Value)[i]? ≠ some (lv x) := by
  intro i x h
  match i with
  | 0 => simp at h; exact ha x h
  | 1 => simp at h; exact hb x h
  | 2 => simp at h; exact hc x h
  | i + 3 => simp at h
theorem refReadRat_any (s : ByteArray) (p : Int) (lo : Bool) (hs : s.size ≤ 9223372036854775807) (w : World) : Calls Try.prog 39 #[rd s p lo] w fun e w' => RetQ8 s p (readQ s p lo) w e w' := by
  have KG := Lib.hid (fun W => refGone_any s p lo W)
  have K1 := Lib.hid (fun W => refReadNat_any s p lo hs W)
  have M0 := (((Own.new w).alloc rfl #[.string s, .int .i64 p, .bool lo] 42).alloc (World.size_alloc _ _) #[.slice none 0 0, .slice none 0 0] 26).alloc (g := w.heap.size + 2) (by simp) #[.string ⟨#[]⟩, .int .i64 0, .bool false] 42
  obtain ⟨g, hg⟩ : ∃ g, w.heap.size = g := ⟨_, rfl⟩
  rw [hg] at M0
  obtain ⟨q, hq⟩ : ∃ q, g + 1 = q := ⟨_, rfl⟩
  obtain ⟨r, hr⟩ : ∃ r, g + 2 = r := ⟨_, rfl⟩
  have hr2 : q + 1 = r := by omega
  rw [hq, hr] at M0
  have M : Own w [(g, #[.string s, .int .i64 p, .bool lo]), (q, #[.slice none 0 0, .slice none 0 0]), (r, #[.string ⟨#[]⟩, .int .i64 0, .bool false])] _ := M0
  obtain ⟨c0, c1, c2⟩ := (M.box 0 g _ rfl).2.three
  clear M0
  cases ho : readA s p lo with
  | none =>
    rw [ho] at K1
    rw [readQ_no1 ho]
    have K2 := Lib.hid (fun W => refReadNat_any s p true hs W)
    rw [readA_none (show ¬ okA s p true from fun x => by cases x.1)] at K2
    clear ho
    go_enter Try.func39, Try.ntmps39
    go_wp2_with fail
    clear hg hq hr hr2 c0 c1 c2
    generalize ((w.alloc (.cells #[.string s, .int .i64 p, .bool lo] 42)).alloc (.cells #[.slice none 0 0, .slice none 0 0] 26)).alloc (.cells #[.string ⟨#[]⟩, .int .i64 0, .bool false] 42) = W at *
    refine (K1.out _).mono ?_
    rintro e W1 ⟨A, n, c, rfl, LA, B1⟩
    replace M := M.next B1
    clear B1
    obtain ⟨x1, hx1⟩ : ∃ q, W1.heap.size = q := ⟨_, rfl⟩
    replace M := M.alloc hx1 #[.string s, .int .i64 p, .bool true] 42
    have X := Box.new W1 #[.string s, .int .i64 p, .bool true] 42
    rw [hx1] at X
    replace LA := LA.alloc (.cells #[.string s, .int .i64 p, .bool true] 42)
    obtain ⟨y0, y1, y2⟩ := X.three
    go_wp2_with fail
    clear hx1 y0 y1 y2
    generalize W1.alloc (.cells #[.string s, .int .i64 p, .bool true] 42) = V at *
    refine (K2.out _).mono ?_
    rintro e W2 ⟨A', n', c', rfl, LB, B1⟩
    replace M := M.next B1
    replace X := X.next B1
    replace LA := LA.next B1
    clear B1
    obtain ⟨x2, hx2⟩ : ∃ q, W2.heap.size = q := ⟨_, rfl⟩
    replace M := M.next (below_one W2 (.cells #[.string s, .int .i64 p, .bool true] 42))
    replace X := X.next (below_one W2 (.cells #[.string s, .int .i64 p, .bool true] 42))
    have Y := Box.new W2 #[.string s, .int .i64 p, .bool true] 42
    rw [hx2] at Y
    replace LA := LA.alloc (.cells #[.string s, .int .i64 p, .bool true] 42)
    replace LB := LB.alloc (.cells #[.string s, .int .i64 p, .bool true] 42)
    obtain ⟨y0, y1, y2⟩ := X.three
    obtain ⟨v0, v1, v2⟩ := Y.three
    obtain ⟨c0, c1, c2⟩ := (M.box 0 g _ rfl).2.three
    go_wp2_with fail
    clear hx2
    generalize W2.alloc (.cells #[.string s, .int .i64 p, .bool true] 42) = V2 at *
    refine (KG.out _).mono ?_
    rintro e W9 ⟨rfl, B1⟩
    replace M := M.next B1
    clear B1 c0 c1 c2 y0 y1 y2 v0 v1 v2
    have b5 : ¬ q = r := M.ne 1 2 q r _ _ rfl rfl (by decide)
    have b6 : ¬ r = q := fun h => b5 h.symm
    obtain ⟨q0, q1⟩ := (M.box 1 q _ rfl).2.two
    obtain ⟨r0, r1, r2⟩ := (M.box 2 r _ rfl).2.three
    have n0 := (M.box 1 q _ rfl).2.melt 0; have n1 := (M.box 1 q _ rfl).2.melt 1
    have m0 := (M.box 2 r _ rfl).2.melt 0; have m1 := (M.box 2 r _ rfl).2.melt 1; have m2 := (M.box 2 r _ rfl).2.melt 2
    go_wp2_with fail
    clear q0 q1 r0 r1 r2 n0 n1 m0 m1 m2
    replace M := (M.put2 1 rfl (.slice none 0 0) (.slice none 0 0)).put3 2 rfl (.string s) (.int .i64 p) (.bool true)
    generalize ((((W9.setCell ⟨q, 0, none⟩ (.slice none 0 0)).setCell ⟨q, 1, none⟩ (.slice none 0 0)).setCell ⟨r, 0, none⟩ (.string s)).setCell ⟨r, 1, none⟩ (.int .i64 p)).setCell ⟨r, 2, none⟩ (.bool true) = Z9 at *
    obtain ⟨q0, q1⟩ := (M.box 1 q _ rfl).2.two
    obtain ⟨r0, r1, r2⟩ := (M.box 2 r _ rfl).2.three
    refine bodyPost_ret (v := .tuple #[.agg #[.slice none 0 0, .slice none 0 0], rd s p true]) ?_ rfl ?_
    · simp [results, Try.results39, go_sem, q0, q1, r0, r1, r2]
    · exact RetQ8.none_ M.bl
  | some x =>
    obtain ⟨xs, k⟩ := x
    rw [ho] at K1
    obtain ⟨NO, NEXT⟩ := readQ_next ho
    obtain ⟨p2, hp2⟩ : ∃ x : Int, x = p + k := ⟨_, rfl⟩
    have K1 : Hid (∀ W, Calls Try.prog 38 #[rd s p lo] W fun e w' => ∃ A n c, e = .returned (.tuple #[.slice A n c, rd s p2 false]) ∧ Lim w' A n c xs ∧ Below W.heap.size W w') := fun W => by
      rw [hp2]; exact K1.out W
    have K2 := Lib.hid (fun W => refReadNat_any s p2 false hs W)
    rw [← hp2] at NO NEXT
    cases ho2 : readA s p2 false with
    | none =>
      rw [ho2] at K2
      rw [NO ho2]
      clear NO NEXT ho ho2 hp2
      go_enter Try.func39, Try.ntmps39
      go_wp2_with fail
      clear hg hq hr hr2 c0 c1 c2
      generalize ((w.alloc (.cells #[.string s, .int .i64 p, .bool lo] 42)).alloc (.cells #[.slice none 0 0, .slice none 0 0] 26)).alloc (.cells #[.string ⟨#[]⟩, .int .i64 0, .bool false] 42) = W at *
      refine (K1.out _).mono ?_
      rintro e W1 ⟨A, n, c, rfl, LA, B1⟩
      replace M := M.next B1
      clear B1
      obtain ⟨x1, hx1⟩ : ∃ q, W1.heap.size = q := ⟨_, rfl⟩
      replace M := M.alloc hx1 #[.string s, .int .i64 p2, .bool false] 42
      have X := Box.new W1 #[.string s, .int .i64 p2, .bool false] 42
      rw [hx1] at X
      replace LA := LA.alloc (.cells #[.string s, .int .i64 p2, .bool false] 42)
      obtain ⟨y0, y1, y2⟩ := X.three
      go_wp2_with fail
      clear hx1 y0 y1 y2
      generalize W1.alloc (.cells #[.string s, .int .i64 p2, .bool false] 42) = V at *
      refine (K2.out _).mono ?_
      rintro e W2 ⟨A', n', c', rfl, LB, B1⟩
      replace M := M.next B1
      replace X := X.next B1
      replace LA := LA.next B1
      clear B1
      obtain ⟨x2, hx2⟩ : ∃ q, W2.heap.size = q := ⟨_, rfl⟩
      replace M := M.next (below_one W2 (.cells #[.string s, .int .i64 p2, .bool true] 42))
      replace X := X.next (below_one W2 (.cells #[.string s, .int .i64 p2, .bool true] 42))
      have Y := Box.new W2 #[.string s, .int .i64 p2, .bool true] 42
      rw [hx2] at Y
      replace LA := LA.alloc (.cells #[.string s, .int .i64 p2, .bool true] 42)
      replace LB := LB.alloc (.cells #[.string s, .int .i64 p2, .bool true] 42)
      obtain ⟨y0, y1, y2⟩ := X.three
      obtain ⟨v0, v1, v2⟩ := Y.three
      obtain ⟨c0, c1, c2⟩ := (M.box 0 g _ rfl).2.three
      go_wp2_with fail
      clear hx2
      generalize W2.alloc (.cells #[.string s, .int .i64 p2, .bool true] 42) = V2 at *
      refine (KG.out _).mono ?_
      rintro e W9 ⟨rfl, B1⟩
      replace M := M.next B1
      clear B1 c0 c1 c2 y0 y1 y2 v0 v1 v2
      have b5 : ¬ q = r := M.ne 1 2 q r _ _ rfl rfl (by decide)
      have b6 : ¬ r = q := fun h => b5 h.symm
      obtain ⟨q0, q1⟩ := (M.box 1 q _ rfl).2.two
      obtain ⟨r0, r1, r2⟩ := (M.box 2 r _ rfl).2.three
      have n0 := (M.box 1 q _ rfl).2.melt 0; have n1 := (M.box 1 q _ rfl).2.melt 1
      have m0 := (M.box 2 r _ rfl).2.melt 0; have m1 := (M.box 2 r _ rfl).2.melt 1; have m2 := (M.box 2 r _ rfl).2.melt 2
      go_wp2_with fail
      clear q0 q1 r0 r1 r2 n0 n1 m0 m1 m2
      replace M := (M.put2 1 rfl (.slice none 0 0) (.slice none 0 0)).put3 2 rfl (.string s) (.int .i64 p) (.bool true)
      generalize ((((W9.setCell ⟨q, 0, none⟩ (.slice none 0 0)).setCell ⟨q, 1, none⟩ (.slice none 0 0)).setCell ⟨r, 0, none⟩ (.string s)).setCell ⟨r, 1, none⟩ (.int .i64 p)).setCell ⟨r, 2, none⟩ (.bool true) = Z9 at *
      obtain ⟨q0, q1⟩ := (M.box 1 q _ rfl).2.two
      obtain ⟨r0, r1, r2⟩ := (M.box 2 r _ rfl).2.three
      refine bodyPost_ret (v := .tuple #[.agg #[.slice none 0 0, .slice none 0 0], rd s p true]) ?_ rfl ?_
      · simp [results, Try.results39, go_sem, q0, q1, r0, r1, r2]
      · exact RetQ8.none_ M.bl
    | some y =>
      obtain ⟨ys, k2⟩ := y
      rw [ho2] at K2
      obtain ⟨N1, N2⟩ := NEXT ys k2 ho2
      obtain ⟨p3, hp3⟩ : ∃ x : Int, x = p2 + k2 := ⟨_, rfl⟩
      have hpk : Hid (p3 = p + ((k + k2 : Nat) : Int)) := by unfold Hid; rw [hp3, hp2]; omega
      have K2 : Hid (∀ W, Calls Try.prog 38 #[rd s p2 false] W fun e w' => ∃ A n c, e = .returned (.tuple #[.slice A n c, rd s p3 false]) ∧ Lim w' A n c ys ∧ Below W.heap.size W w') := fun W => by
        rw [hp3]; exact K2.out W
      cases hf : frB xs ys with
      | false =>
        rw [N1 hf]
        clear NO NEXT ho ho2 hp2 hp3 N1 N2
        go_enter Try.func39, Try.ntmps39
        go_wp2_with fail
        clear hg hq hr hr2 c0 c1 c2
        generalize ((w.alloc (.cells #[.string s, .int .i64 p, .bool lo] 42)).alloc (.cells #[.slice none 0 0, .slice none 0 0] 26)).alloc (.cells #[.string ⟨#[]⟩, .int .i64 0, .bool false] 42) = W at *
        refine (K1.out _).mono ?_
        rintro e W1 ⟨A, n, c, rfl, LA, B1⟩
        replace M := M.next B1
        clear B1
        obtain ⟨x1, hx1⟩ : ∃ q, W1.heap.size = q := ⟨_, rfl⟩
        replace M := M.alloc hx1 #[.string s, .int .i64 p2, .bool false] 42
        have X := Box.new W1 #[.string s, .int .i64 p2, .bool false] 42
        rw [hx1] at X
        replace LA := LA.alloc (.cells #[.string s, .int .i64 p2, .bool false] 42)
        obtain ⟨y0, y1, y2⟩ := X.three
        go_wp2_with fail
        clear hx1 y0 y1 y2
        generalize W1.alloc (.cells #[.string s, .int .i64 p2, .bool false] 42) = V at *
        refine (K2.out _).mono ?_
        rintro e W2 ⟨A', n', c', rfl, LB, B1⟩
        replace M := M.next B1
        replace X := X.next B1
        replace LA := LA.next B1
        clear B1
        obtain ⟨x2, hx2⟩ : ∃ q, W2.heap.size = q := ⟨_, rfl⟩
        replace M := M.next (below_one W2 (.cells #[.string s, .int .i64 p3, .bool false] 42))
        replace X := X.next (below_one W2 (.cells #[.string s, .int .i64 p3, .bool false] 42))
        have Y := Box.new W2 #[.string s, .int .i64 p3, .bool false] 42
        rw [hx2] at Y
        replace LA := LA.alloc (.cells #[.string s, .int .i64 p3, .bool false] 42)
        replace LB := LB.alloc (.cells #[.string s, .int .i64 p3, .bool false] 42)
        obtain ⟨y0, y1, y2⟩ := X.three
        obtain ⟨v0, v1, v2⟩ := Y.three
        obtain ⟨c0, c1, c2⟩ := (M.box 0 g _ rfl).2.three
        go_wp2_with fail
        clear hx2
        have KR := Lib.hid (right3_any LA LB)
        rw [hf] at KR
        generalize W2.alloc (.cells #[.string s, .int .i64 p3, .bool false] 42) = V2 at *
        refine KR.out.mono ?_
        rintro e V3 ⟨rfl, B1⟩
        replace M := M.next B1
        clear c0 c1 c2 B1
        obtain ⟨c0, c1, c2⟩ := (M.box 0 g _ rfl).2.three
        go_wp2_with fail
        refine (KG.out _).mono ?_
        rintro e W9 ⟨rfl, B1⟩
        replace M := M.next B1
        clear B1 c0 c1 c2 y0 y1 y2 v0 v1 v2
        have b5 : ¬ q = r := M.ne 1 2 q r _ _ rfl rfl (by decide)
        have b6 : ¬ r = q := fun h => b5 h.symm
        obtain ⟨q0, q1⟩ := (M.box 1 q _ rfl).2.two
        obtain ⟨r0, r1, r2⟩ := (M.box 2 r _ rfl).2.three
        have n0 := (M.box 1 q _ rfl).2.melt 0; have n1 := (M.box 1 q _ rfl).2.melt 1
        have m0 := (M.box 2 r _ rfl).2.melt 0; have m1 := (M.box 2 r _ rfl).2.melt 1; have m2 := (M.box 2 r _ rfl).2.melt 2
        go_wp2_with fail
        clear q0 q1 r0 r1 r2 n0 n1 m0 m1 m2
        replace M := (M.put2 1 rfl (.slice none 0 0) (.slice none 0 0)).put3 2 rfl (.string s) (.int .i64 p) (.bool true)
        generalize ((((W9.setCell ⟨q, 0, none⟩ (.slice none 0 0)).setCell ⟨q, 1, none⟩ (.slice none 0 0)).setCell ⟨r, 0, none⟩ (.string s)).setCell ⟨r, 1, none⟩ (.int .i64 p)).setCell ⟨r, 2, none⟩ (.bool true) = Z9 at *
        obtain ⟨q0, q1⟩ := (M.box 1 q _ rfl).2.two
        obtain ⟨r0, r1, r2⟩ := (M.box 2 r _ rfl).2.three
        refine bodyPost_ret (v := .tuple #[.agg #[.slice none 0 0, .slice none 0 0], rd s p true]) ?_ rfl ?_
        · simp [results, Try.results39, go_sem, q0, q1, r0, r1, r2]
        · exact RetQ8.none_ M.bl
      | true =>
        rw [N2 hf]
        clear NO NEXT ho ho2 hp2 hp3 N1 N2
        go_enter Try.func39, Try.ntmps39
        go_wp2_with fail
        clear hg hq hr hr2 c0 c1 c2
        generalize ((w.alloc (.cells #[.string s, .int .i64 p, .bool lo] 42)).alloc (.cells #[.slice none 0 0, .slice none 0 0] 26)).alloc (.cells #[.string ⟨#[]⟩, .int .i64 0, .bool false] 42) = W at *
        refine (K1.out _).mono ?_
        rintro e W1 ⟨A, n, c, rfl, LA, B1⟩
        replace M := M.next B1
        clear B1
        obtain ⟨x1, hx1⟩ : ∃ q, W1.heap.size = q := ⟨_, rfl⟩
        replace M := M.alloc hx1 #[.string s, .int .i64 p2, .bool false] 42
        have X := Box.new W1 #[.string s, .int .i64 p2, .bool false] 42
        rw [hx1] at X
        replace LA := LA.alloc (.cells #[.string s, .int .i64 p2, .bool false] 42)
        obtain ⟨y0, y1, y2⟩ := X.three
        go_wp2_with fail
        clear hx1 y0 y1 y2
        generalize W1.alloc (.cells #[.string s, .int .i64 p2, .bool false] 42) = V at *
        refine (K2.out _).mono ?_
        rintro e W2 ⟨A', n', c', rfl, LB, B1⟩
        replace M := M.next B1
        replace X := X.next B1
        replace LA := LA.next B1
        clear B1
        have MQ : Hid (q < W2.heap.size ∧ r < W2.heap.size) := ⟨(M.box 1 q _ rfl).2.lt, (M.box 2 r _ rfl).2.lt⟩
        obtain ⟨x2, hx2⟩ : ∃ q, W2.heap.size = q := ⟨_, rfl⟩
        replace M := M.next (below_one W2 (.cells #[.string s, .int .i64 p3, .bool false] 42))
        replace X := X.next (below_one W2 (.cells #[.string s, .int .i64 p3, .bool false] 42))
        have Y := Box.new W2 #[.string s, .int .i64 p3, .bool false] 42
        rw [hx2] at Y
        replace LA := LA.alloc (.cells #[.string s, .int .i64 p3, .bool false] 42)
        replace LB := LB.alloc (.cells #[.string s, .int .i64 p3, .bool false] 42)
        obtain ⟨y0, y1, y2⟩ := X.three
        obtain ⟨v0, v1, v2⟩ := Y.three
        obtain ⟨c0, c1, c2⟩ := (M.box 0 g _ rfl).2.three
        go_wp2_with fail
        have qlt : Hid (q < x2 ∧ r < x2) := by have a := (M.box 1 q _ rfl).2; have b := (M.box 2 r _ rfl).2; exact ⟨by have := MQ.out.1; omega, by have := MQ.out.2; omega⟩
        clear hx2
        have KR := Lib.hid (right3_any LA LB)
        rw [hf] at KR
        generalize W2.alloc (.cells #[.string s, .int .i64 p3, .bool false] 42) = V2 at *
        refine KR.out.mono ?_
        rintro e V3 ⟨rfl, B1⟩
        replace M := M.next B1
        replace Y := Y.next B1
        replace LA := LA.next B1
        replace LB := LB.next B1
        clear c0 c1 c2 B1 X y0 y1 y2 v0 v1 v2
        obtain ⟨v0, v1, v2⟩ := Y.three
        have b5 : ¬ q = r := M.ne 1 2 q r _ _ rfl rfl (by decide)
        have b6 : ¬ r = q := fun h => b5 h.symm
        obtain ⟨q0, q1⟩ := (M.box 1 q _ rfl).2.two
        obtain ⟨r0, r1, r2⟩ := (M.box 2 r _ rfl).2.three
        have n0 := (M.box 1 q _ rfl).2.melt 0; have n1 := (M.box 1 q _ rfl).2.melt 1
        have m0 := (M.box 2 r _ rfl).2.melt 0; have m1 := (M.box 2 r _ rfl).2.melt 1; have m2 := (M.box 2 r _ rfl).2.melt 2
        have a1 : ¬ x2 = q := fun h => by have := ((M.box 1 q _ rfl)).2.lt; have := qlt.out; omega
        have a2 : ¬ x2 = r := fun h => by have := qlt.out; omega
        have a3 : ¬ q = x2 := fun h => a1 h.symm
        have a4 : ¬ r = x2 := fun h => a2 h.symm
        have a5 : ¬ q = r := M.ne 1 2 q r _ _ rfl rfl (by decide)
        have a6 : ¬ r = q := fun h => a5 h.symm
        go_wp2_with fail
        go_region
        all_goals go_wp2_with fail
        clear q0 q1 r0 r1 r2 n0 n1 m0 m1 m2 v0 v1 v2
        have nq := no_lv2 (a := .slice none 0 0) (b := .slice none 0 0) (fun x h => by cases h) (fun x h => by cases h)
        have nq1 := no_lv2 (a := .slice A n c) (b := .slice none 0 0) (fun x h => by cases h) (fun x h => by cases h)
        have nr := no_lv3 (a := .string ⟨#[]⟩) (b := .int .i64 0) (c := .bool false) (fun x h => by cases h) (fun x h => by cases h) (fun x h => by cases h)
        have nr1 := no_lv3 (a := .string s) (b := .int .i64 0) (c := .bool false) (fun x h => by cases h) (fun x h => by cases h) (fun x h => by cases h)
        have nr2 := no_lv3 (a := .string s) (b := .int .i64 p3) (c := .bool false) (fun x h => by cases h) (fun x h => by cases h) (fun x h => by cases h)
        have M1 := M.set 1 rfl 0 (.slice A n c)
        have M2 := M1.set 1 rfl 1 (.slice A' n' c')
        have M3 := M2.set 2 rfl 0 (.string s)
        have M4 := M3.set 2 rfl 1 (.int .i64 p3)
        have LA5 := ((((LA.box (M.box 1 q _ rfl).2 nq 0 (.slice A n c)).box (M1.box 1 q _ rfl).2 nq1 1 (.slice A' n' c')).box (M2.box 2 r _ rfl).2 nr 0 (.string s)).box (M3.box 2 r _ rfl).2 nr1 1 (.int .i64 p3)).box (M4.box 2 r _ rfl).2 nr2 2 (.bool false)
        have LB5 := ((((LB.box (M.box 1 q _ rfl).2 nq 0 (.slice A n c)).box (M1.box 1 q _ rfl).2 nq1 1 (.slice A' n' c')).box (M2.box 2 r _ rfl).2 nr 0 (.string s)).box (M3.box 2 r _ rfl).2 nr1 1 (.int .i64 p3)).box (M4.box 2 r _ rfl).2 nr2 2 (.bool false)
        replace M := ((M.put2 1 rfl (.slice A n c) (.slice A' n' c')).put3 2 rfl (.string s) (.int .i64 p3) (.bool false)).drew
        replace LA := LA5.drew
        replace LB := LB5.drew
        clear nq nq1 nr nr1 nr2 M1 M2 M3 M4 LA5 LB5
        generalize (((((V3.setCell ⟨q, 0, none⟩ (.slice A n c)).setCell ⟨q, 1, none⟩ (.slice A' n' c')).setCell ⟨r, 0, none⟩ (.string s)).setCell ⟨r, 1, none⟩ (.int .i64 p3)).setCell ⟨r, 2, none⟩ (.bool false)).drew = Z9 at *
        obtain ⟨q0, q1⟩ := (M.box 1 q _ rfl).2.two
        obtain ⟨r0, r1, r2⟩ := (M.box 2 r _ rfl).2.three
        refine bodyPost_ret (v := .tuple #[.agg #[.slice A n c, .slice A' n' c'], rd s p3 false]) ?_ rfl ?_
        · simp [results, Try.results39, go_sem, q0, q1, r0, r1, r2]
        · exact ⟨A, n, c, A', n', c', by rw [hpk.out]; rfl, LA, LB, M.bl⟩
end Go.Proofs.Ytacobmnghdibaaa
