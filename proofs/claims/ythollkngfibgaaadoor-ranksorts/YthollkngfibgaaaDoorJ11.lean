/- slices.rotateCmpFunc: two stretches beside one another change places. slices.insertionSortCmpFunc: a stretch is put in order, the equal ones as they came. slices.symMergeCmpFunc where the first stretch has one item. slices.symMergeCmpFunc where the second stretch has one item, the first not. -/
import Derived.Test.YthollkngfibgaaaDoorJ10
import Derived.Test.YthollkngfibgaaaDoorJ06
namespace Go.Proofs.YthollkngfibgaaaDoor
open Go.RowKit
set_option linter.unusedVariables false
set_option linter.unusedSimpArgs false
set_option maxHeartbeats 2000000
set_option maxRecDepth 100000
/-- What is left to be turned. -/
def Rot (tgt : List It) (m i j : Nat) (cur : List It) : Prop := ∃ x u v y, cur = x ++ (u ++ (v ++ y)) ∧ x.length + i = m ∧ u.length = i ∧ v.length = j ∧ x ++ (v ++ (u ++ y)) = tgt
theorem Row3.nof {W : World} {ad : Addr} {s : List It} (h : Row3 W ad s) (t : List It) (e : s = t) : Row3 W ad t := e ▸ h
theorem rotate_any {ad : Addr} {X U V Z : List It} {N c a m b : Nat} {w : World} (F : Value) (h : Row3 w ad (X ++ (U ++ (V ++ Z)))) (ha : X.length = a) (hm : X.length + U.length = m) (hb : X.length + U.length + V.length = b) (hu : 0 < U.length) (hv : 0 < V.length) (hN : X.length + U.length + V.length + Z.length = N) (hs : N ≤ 100000) :
    Calls Tryd.prog 88 #[.slice (some ad) N c, .int .i64 (a : Int), .int .i64 (m : Int), .int .i64 (b : Int), F] w fun e w' => e = .returned (.tuple #[]) ∧ Tr ad (X ++ (V ++ (U ++ Z))) w w' := by
  have R0 : Hid (∃ cur, Rot (X ++ (V ++ (U ++ Z))) m (m - a) (b - m) cur ∧ cur.length = N ∧ Tr ad cur w w) := ⟨_, ⟨X, U, V, Z, rfl, by omega, by omega, by omega, rfl⟩, by simp only [List.length_append]; omega, Tr.refl h⟩
  have KS := Lib.hid (fun (X U Y V Z : List It) (n : Nat) (W : World) (h : Row3 W ad (X ++ (U ++ (Y ++ (V ++ Z))))) (hu : U.length = n) (hv : V.length = n) (hN : X.length + n + Y.length + n + Z.length = N) => swapRange_any (c := c) F h hu hv rfl rfl hN hs)
  generalize X ++ (V ++ (U ++ Z)) = tgt at *
  have e1 : IntKind.i64.wrap ((m : Int) - a) = ((m - a : Nat) : Int) := by rw [IntKind.wrap_i64]; omega
  have e2 : IntKind.i64.wrap ((b : Int) - m) = ((b - m : Nat) : Int) := by rw [IntKind.wrap_i64]; omega
  have i0 : 0 < m - a := by omega
  have j0 : 0 < b - m := by omega
  have mN : m ≤ N := by omega
  have am : m - a ≤ m := by omega
  have bN : m + (b - m) ≤ N := by omega
  clear h ha hm hb hu hv hN
  generalize m - a = i at *
  generalize b - m = j at *
  go_enter Tryd.func88, Tryd.ntmps88
  go_wp2_with fail
  go_loopg [10, 11] (i + j) (fun q s10 s11 wr => ∃ i j : Nat, s10 = .int .i64 (i : Int) ∧ s11 = .int .i64 (j : Int) ∧ 0 < i ∧ 0 < j ∧ i ≤ m ∧ m + j ≤ N ∧ i + j ≤ q ∧ Hid (∃ cur, Rot tgt m i j cur ∧ cur.length = N ∧ Tr ad cur w wr))
  case atStart => exact ⟨i, j, rfl, rfl, i0, j0, am, bN, Nat.le_refl _, R0⟩
  case round =>
    clear R0 e1 e2 i0 j0 am bN
    obtain ⟨k, l, rfl, rfl, k0, l0, km, lN, hq, R⟩ := hrel
    obtain ⟨cur, ⟨x, u, v, y, rfl, hx, hu, hv, ht⟩, hl, T⟩ := R.out
    clear R
    have HX := Lib.hid hx; have HU := Lib.hid hu; have HV := Lib.hid hv; have HT := Lib.hid ht; have HL := Lib.hid hl; have HQ := Lib.hid hq
    replace T := Lib.hid T
    clear hx hu hv ht hl hq
    have mk : IntKind.i64.wrap ((m : Int) - k) = ((m - k : Nat) : Int) := by rw [IntKind.wrap_i64]; omega
    by_cases e : k = l
    · subst e
      have ek : ((k : Int) != (k : Int)) = false := by simp
      have K := KS.out x u [] v y k wr (T.out.row.nof _ (by simp)) HU.out HV.out (by have := HL.out; have := HU.out; have := HV.out; simp only [List.length_append] at *; simp only [List.length_nil]; omega)
      rw [show x.length = m - k by have := HX.out; omega, show m - k + k + ([] : List It).length = m by simp only [List.length_nil]; omega] at K
      go_wp2_with fail
      refine K.mono ?_
      rintro e w1 ⟨rfl, T1⟩
      have TT := Lib.hid (T.out.trans T1)
      clear K KS
      go_wp2_with fail
      go_end0
      refine ⟨rfl, ?_⟩
      have q := TT.out
      rw [show x ++ (v ++ ([] ++ (u ++ y))) = tgt by rw [← HT.out]; simp] at q
      exact q
    · have ek : ((k : Int) != (l : Int)) = true := by simp; omega
      by_cases g : l < k
      · have gi : (l : Int) < k := by omega
        have ekl : IntKind.i64.wrap ((k : Int) - l) = ((k - l : Nat) : Int) := by rw [IntKind.wrap_i64]; omega
        have K := KS.out x (u.take l) (u.drop l) v y l wr (T.out.row.nof _ (by rw [← List.append_assoc (u.take l), List.take_append_drop])) (by have := HU.out; rw [List.length_take]; omega) HV.out (by have := HL.out; have := HU.out; have := HV.out; simp only [List.length_append, List.length_drop] at *; omega)
        rw [show x.length = m - k by have := HX.out; omega, show m - k + l + (u.drop l).length = m by have := HU.out; rw [List.length_drop]; omega] at K
        clear e
        go_wp2_with fail
        refine K.mono ?_
        rintro e w1 ⟨rfl, T1⟩
        have TT : Hid (∃ cur, Rot tgt m (k - l) l cur ∧ cur.length = N ∧ Tr ad cur w w1) := by
          refine ⟨_, ⟨x ++ v, u.drop l, u.take l, y, ?_, ?_, ?_, ?_, ?_⟩, ?_, T.out.trans T1⟩
          · simp only [List.append_assoc]
          · have := HX.out; have := HV.out; rw [List.length_append]; omega
          · have := HU.out; rw [List.length_drop]; omega
          · have := HU.out; rw [List.length_take]; omega
          · rw [← HT.out, ← List.append_assoc (u.take l), List.take_append_drop, List.append_assoc]
          · have := HL.out; have := HU.out; have := HV.out; simp only [List.length_append, List.length_drop, List.length_take] at *; omega
        clear K T T1
        go_wp2_with fail
        go_roundg (gk - 1)
        case measure => have := HQ.out; omega
        case rel =>
          go_light
          exact ⟨k - l, l, by go_num, rfl, by omega, l0, by omega, lN, by have := HQ.out; omega, TT⟩
      · have gi : ¬ (l : Int) < k := by omega
        have elk : IntKind.i64.wrap ((l : Int) - k) = ((l - k : Nat) : Int) := by rw [IntKind.wrap_i64]; omega
        have eml : IntKind.i64.wrap ((m : Int) + l) = ((m + l : Nat) : Int) := by rw [IntKind.wrap_i64]; omega
        have emk : IntKind.i64.wrap (((m + l : Nat) : Int) - k) = ((m + l - k : Nat) : Int) := by rw [IntKind.wrap_i64]; omega
        have K := KS.out x u (v.take (l - k)) (v.drop (l - k)) y k wr (T.out.row.nof _ (by rw [← List.append_assoc (v.take (l - k)), List.take_append_drop])) HU.out (by have := HV.out; rw [List.length_drop]; omega) (by have := HL.out; have := HU.out; have := HV.out; simp only [List.length_append, List.length_take] at *; omega)
        rw [show x.length = m - k by have := HX.out; omega, show m - k + k + (v.take (l - k)).length = m + l - k by have := HV.out; rw [List.length_take]; omega] at K
        have kl : k < l := by omega
        clear e
        obtain ⟨ml, hml⟩ : ∃ x, x = m + l := ⟨_, rfl⟩
        obtain ⟨mlk, hmlk⟩ : ∃ x, x = m + l - k := ⟨_, rfl⟩
        rw [← hmlk] at emk K
        rw [← hml] at eml emk
        clear hml hmlk
        go_wp2_with fail
        refine K.mono ?_
        rintro e w1 ⟨rfl, T1⟩
        have TT : Hid (∃ cur, Rot tgt m k (l - k) cur ∧ cur.length = N ∧ Tr ad cur w w1) := by
          refine ⟨_, ⟨x, v.drop (l - k), v.take (l - k), u ++ y, ?_, ?_, ?_, ?_, ?_⟩, ?_, T.out.trans T1⟩
          · rfl
          · exact HX.out
          · have := HV.out; rw [List.length_drop]; omega
          · have := HV.out; rw [List.length_take]; omega
          · rw [← HT.out, ← List.append_assoc (v.take (l - k)), List.take_append_drop]
          · have := HL.out; have := HU.out; have := HV.out; simp only [List.length_append, List.length_drop, List.length_take] at *; omega
        clear K T T1
        go_wp2_with fail
        go_roundg (gk - 1)
        case measure => have := HQ.out; omega
        case rel =>
          go_light
          exact ⟨k, l - k, rfl, by go_num, k0, by omega, km, by omega, by have := HQ.out; omega, TT⟩
end Go.Proofs.YthollkngfibgaaaDoor
namespace Go.Proofs.YthollkngfibgaaaDoor
open Go.RowKit
set_option linter.unusedVariables false
set_option linter.unusedSimpArgs false
set_option maxHeartbeats 2000000
set_option maxRecDepth 100000
/-- What is asked of the order that is handed on. -/
abbrev CmpOk : Prop := ∀ x y : It, x.Fit → y.Fit → ∀ W : World, Calls Tryd.prog 13 #[itv x, itv y] W fun e W' => e = .returned (.int .i64 (cmpI x y)) ∧ Below W.heap.size W W'
/-- k of a stretch are in order. -/
def InsOut (P S Q : List It) (k : Nat) (cur : List It) : Prop := ∃ T, cur = P ++ (T ++ (S.drop k ++ Q)) ∧ IsSort (S.take k) T
/-- One more is on its way. -/
def InsIn (P T : List It) (x : It) (R : List It) (j : Nat) (cur : List It) : Prop := ∃ T1 T2, cur = P ++ (T1 ++ x :: (T2 ++ R)) ∧ T1 ++ T2 = T ∧ P.length + T1.length = j ∧ ∀ y ∈ T2, cmpI x y < 0
theorem InsOut.start (P S Q : List It) : InsOut P S Q 1 (P ++ (S ++ Q)) := ⟨S.take 1, by rw [← List.append_assoc (S.take 1), List.take_append_drop], isSort_of_sorted (sorted_short (by rw [List.length_take]; omega))⟩
theorem InsIn.here {P T R cur : List It} {x : It} {j : Nat} (h : InsIn P T x R j cur) : nth cur j = x := by
  obtain ⟨T1, T2, rfl, _, rfl, _⟩ := h
  have := nth_mid (P ++ T1) (T2 ++ R) x
  rw [List.length_append, List.append_assoc] at this
  exact this
theorem InsIn.step {P T R cur : List It} {x : It} {j j' : Nat} (h : InsIn P T x R j cur) (hj : P.length < j) (e : j = j' + 1) (c : cmpI x (nth cur j') < 0) : InsIn P T x R j' (swp cur j j') := by
  subst e
  obtain ⟨T1, T2, rfl, ht, hl, hc⟩ := h
  have hne : T1 ≠ [] := by rintro rfl; simp at hl; omega
  obtain ⟨T1', t, rfl⟩ : ∃ T1' t, T1 = T1' ++ [t] := ⟨_, _, (List.dropLast_concat_getLast hne).symm⟩
  have hl' : P.length + T1'.length = j' := by simp only [List.length_append, List.length_cons, List.length_nil] at hl; omega
  have e1 : P ++ (T1' ++ [t] ++ x :: (T2 ++ R)) = (P ++ T1') ++ t :: x :: (T2 ++ R) := by simp
  rw [e1] at c ⊢
  have hn := nth_mid (P ++ T1') (x :: (T2 ++ R)) t
  rw [List.length_append, hl'] at hn
  rw [hn] at c
  rw [swp_comm, swp_next (P ++ T1') (T2 ++ R) t x (by rw [List.length_append]; omega) (by rw [List.length_append]; omega)]
  refine ⟨T1', t :: T2, by simp, by rw [← ht]; simp, hl', fun y hy => ?_⟩
  rcases List.mem_cons.1 hy with rfl | hy
  · exact c
  · exact hc y hy
theorem InsIn.stop {P T R cur L : List It} {x : It} {j : Nat} (h : InsIn P T x R j cur) (c : j ≤ P.length ∨ ∃ j', j = j' + 1 ∧ ¬ cmpI x (nth cur j') < 0) (s : IsSort L T) (m : May L) (hx : 0 < x.w) : ∃ T', cur = P ++ (T' ++ R) ∧ IsSort (L ++ [x]) T' := by
  obtain ⟨T1, T2, rfl, rfl, hl, hc⟩ := h
  refine ⟨T1 ++ x :: T2, by simp, ?_⟩
  have h1 : ∀ y ∈ T1, cmpI y x ≤ 0 := by
    rcases c with c | ⟨j', e, c⟩
    · have : T1 = [] := List.eq_nil_of_length_eq_zero (by omega)
      rw [this]; intro y hy; exact absurd hy (by simp)
    · by_cases hne : T1 = []
      · rw [hne]; intro y hy; exact absurd hy (by simp)
      · obtain ⟨T1', t, rfl⟩ : ∃ T1' t, T1 = T1' ++ [t] := ⟨_, _, (List.dropLast_concat_getLast hne).symm⟩
        have hl' : P.length + T1'.length = j' := by simp only [List.length_append, List.length_cons, List.length_nil] at hl; omega
        have e1 : P ++ (T1' ++ [t] ++ x :: (T2 ++ R)) = (P ++ T1') ++ t :: x :: (T2 ++ R) := by simp
        have hn := nth_mid (P ++ T1') (x :: (T2 ++ R)) t
        rw [List.length_append, hl'] at hn
        rw [e1, hn] at c
        have mt : May (T1' ++ [t]) := fun y hy => s.may m y (List.mem_append_left _ hy)
        have q := s.sorted.left.upto mt hx (k := T1'.length) (by simp) (by
          have := nth_mid T1' [] t
          rw [this]; exact cmpI_ge c)
        intro y hy
        exact q y (by rw [List.take_of_length_le (by simp)]; exact hy)
  have := s.put m hx T1.length (by rw [List.take_left]; exact h1) (by rw [List.drop_left]; exact hc)
  rw [List.take_left, List.drop_left] at this
  exact this
theorem insert_any {ad : Addr} {P S Q : List It} {N c a b : Nat} {w : World} (KC : CmpOk) (h : Row3 w ad (P ++ (S ++ Q))) (ms : May S) (ha : P.length = a) (hb : P.length + S.length = b) (hN : P.length + S.length + Q.length = N) (hs : N ≤ 100000) :
    Calls Tryd.prog 74 #[.slice (some ad) N c, .int .i64 (a : Int), .int .i64 (b : Int), .func (.func 13) #[] #[]] w fun e w' => e = .returned (.tuple #[]) ∧ ∃ S', IsSort S S' ∧ Tr ad (P ++ (S' ++ Q)) w w' := by
  have R0 : Hid (∃ cur, InsOut P S Q 1 cur ∧ cur.length = N ∧ Tr ad cur w w) := ⟨_, InsOut.start P S Q, by simp only [List.length_append]; omega, Tr.refl h⟩
  have eg := enters_of Tryd.func13 (by kernel_rfl) rfl
  obtain ⟨n, hn⟩ : ∃ n, n = S.length := ⟨_, rfl⟩
  have hbn : b = a + n := by omega
  have bN : a + n ≤ N := by omega
  have w1 : IntKind.i64.wrap ((a : Int) + 1) = ((a + 1 : Nat) : Int) := by rw [IntKind.wrap_i64]; omega
  have HP := Lib.hid ha; have HS := Lib.hid hn; have HN := Lib.hid hN; have MS := Lib.hid ms; have KC := Lib.hid KC
  subst hbn
  clear h ms ha hb hN hn
  go_enter Tryd.func74, Tryd.ntmps74
  go_wp2_with fail
  go_loopg [8] (n + 1) (fun q s8 wr => ∃ k : Nat, s8 = .int .i64 ((a + k : Nat) : Int) ∧ 1 ≤ k ∧ n + 1 ≤ q + k ∧ Hid (∃ cur, InsOut P S Q k cur ∧ cur.length = N ∧ Tr ad cur w wr))
  case atStart => exact ⟨1, by go_num, Nat.le_refl _, by omega, R0⟩
  case round =>
    obtain ⟨k, rfl, k1, hq, R⟩ := hrel
    clear R0 w1
    obtain ⟨X, rfl⟩ : ∃ X, X = gk := ⟨_, rfl⟩
    obtain ⟨cur, HO, hl, T⟩ := R.out
    clear R
    obtain ⟨i, hi⟩ : ∃ i, i = a + k := ⟨_, rfl⟩
    rw [← hi]
    by_cases lt : k < n
    · have i1 : (i : Int) < ((a + n : Nat) : Int) := by omega
      have kS : k < S.length := by have := HS.out; omega
      have IN : Hid (∃ T x R, IsSort (S.take k) T ∧ x = nth S k ∧ R = S.drop (k + 1) ++ Q ∧ InsIn P T x R i cur) := by
        obtain ⟨T3, rfl, st⟩ := HO
        refine ⟨T3, nth S k, _, st, rfl, rfl, T3, [], ?_, by simp, ?_, fun y hy => absurd hy (by simp)⟩
        · rw [List.drop_eq_getElem_cons kS, nth_eq kS]; exact rfl
        · have q1 := st.len; have q2 := HP.out; rw [List.length_take] at q1; omega
      obtain ⟨TT, x, R, st, hx, hR, II⟩ := IN.out
      have I0 : Hid (∃ cur, InsIn P TT x R i cur ∧ cur.length = N ∧ Tr ad cur w wr) := ⟨cur, II, hl, T⟩
      have ST := Lib.hid st; have HX := Lib.hid hx; have HR := Lib.hid hR; have KS := Lib.hid kS
      have FX : Hid (x.Fit ∧ 0 < x.w) := ⟨by rw [← II.here]; exact T.row.ft (by omega), by rw [hx]; exact MS.out _ (nth_mem kS)⟩
      have OUT : Hid (∀ cur j, InsIn P TT x R j cur → (j ≤ P.length ∨ ∃ j', j = j' + 1 ∧ ¬ cmpI x (nth cur j') < 0) → InsOut P S Q (k + 1) cur) := by
        intro cur j hin hst
        obtain ⟨T', e, s'⟩ := hin.stop hst ST.out (fun y hy => MS.out y (List.mem_of_mem_take hy)) FX.out.2
        refine ⟨T', by rw [e, HR.out], ?_⟩
        rw [List.take_succ_eq_append_getElem KS.out, ← nth_eq KS.out, ← HX.out]
        exact s'
      have iN : i < N := by omega
      have ai : a ≤ i := by omega
      have HI := Lib.hid hi; have HQ := Lib.hid hq
      clear HO hl T IN st hx hR II kS hi hq
      go_wp2_with fail
      go_loopg [9] i (fun q s9 wt => ∃ j : Nat, s9 = .int .i64 (j : Int) ∧ j ≤ q ∧ a ≤ j ∧ j ≤ i ∧ Hid (∃ cur, InsIn P TT x R j cur ∧ cur.length = N ∧ Tr ad cur w wt))
      case atStart => exact ⟨i, rfl, Nat.le_refl _, ai, Nat.le_refl _, I0⟩
      case round =>
        obtain ⟨j, rfl, hq, aj, ji, R2⟩ := hrel
        obtain ⟨cur, II, hl, T⟩ := R2.out
        clear R2 I0
        have HQ2 := Lib.hid hq
        have HIN := Lib.hid II
        have wi : IntKind.i64.wrap ((i : Int) + 1) = ((i + 1 : Nat) : Int) := by rw [IntKind.wrap_i64]; omega
        by_cases ja : a < j
        · obtain ⟨j', hj'⟩ : ∃ j', j = j' + 1 := ⟨j - 1, by omega⟩
          have ja1 : (a : Int) < j := by omega
          have jw : IntKind.i64.wrap ((j : Int) - 1) = (j' : Int) := by rw [IntKind.wrap_i64]; omega
          have p1 : (0 : Int) ≤ (j : Int) := by omega
          have p2 : (j : Int) < N := by omega
          have p3 : (0 : Int) ≤ (j' : Int) := by omega
          have p4 : (j' : Int) < N := by omega
          have jl : j < cur.length := by omega
          have jl' : j' < cur.length := by omega
          obtain ⟨x0, x1, x2⟩ := T.row.cell jl
          obtain ⟨y0, y1, y2⟩ := T.row.cell jl'
          have fy := T.row.ft jl'
          have HT := Lib.hid T
          have JL := Lib.hid jl; have JL' := Lib.hid jl'; have HL := Lib.hid hl
          rw [II.here] at x0 x1 x2
          have K := Lib.hid (KC.out x (nth cur j') FX.out.1 fy)
          obtain ⟨y, hy⟩ : ∃ y, y = nth cur j' := ⟨_, rfl⟩
          rw [← hy] at y0 y1 y2 fy K
          obtain ⟨cc, hcc⟩ : ∃ cc, cc = cmpI x y := ⟨_, rfl⟩
          rw [← hcc] at K
          have HY := Lib.hid hy; have HCC := Lib.hid hcc; have HJ := Lib.hid hj'
          clear T II jl jl' hl hy hcc hj' hq fy
          go_wp2_with fail
          go_region_held3 (fun w' => w'.cell? (ad.add (j * 3)) = some (.string x.k) ∧ w'.cell? ⟨(ad.add (j * 3)).block, (ad.add (j * 3)).off + 1, none⟩ = some (.int .u64 (x.u : Int)) ∧ w'.cell? ⟨(ad.add (j * 3)).block, (ad.add (j * 3)).off + 2, none⟩ = some (.int .u64 (x.w : Int)) ∧
              w'.cell? (ad.add (j' * 3)) = some (.string y.k) ∧ w'.cell? ⟨(ad.add (j' * 3)).block, (ad.add (j' * 3)).off + 1, none⟩ = some (.int .u64 (y.u : Int)) ∧ w'.cell? ⟨(ad.add (j' * 3)).block, (ad.add (j' * 3)).off + 2, none⟩ = some (.int .u64 (y.w : Int)))
            ((refine ⟨?_, ?_, ?_, ?_, ?_, ?_⟩ <;> (repeat (first | with_reducible exact x0 | with_reducible exact x1 | with_reducible exact x2 | with_reducible exact y0 | with_reducible exact y1 | with_reducible exact y2 | with_reducible refine keep_drew ?_ | with_reducible refine keep_cell (by assumption) ?_))))
            (first | (go_at_call 13; (with_reducible refine (K.out _).mono ?_); rintro e Zt ⟨rfl, BZ⟩))
          have TZ := Lib.hid (HT.out.drew.next BZ)
          clear x0 x1 x2 y0 y1 y2 HT BZ K
          by_cases hc : cc < 0
          · obtain ⟨x0, x1, x2⟩ := TZ.out.row.cell JL.out
            obtain ⟨y0, y1, y2⟩ := TZ.out.row.cell JL'.out
            obtain ⟨fx0, fx1, fx2⟩ := TZ.out.row.melts (j * 3)
            obtain ⟨fy0, fy1, fy2⟩ := TZ.out.row.melts (j' * 3)
            obtain ⟨s1, s2, s3, s4, s5⟩ := TZ.out.row.stores JL.out JL'.out (by have := HJ.out; omega) x y
            rw [HIN.out.here] at x0 x1 x2 s1 s2
            rw [← HY.out] at y0 y1 y2 s3 s4 s5
            have TS : Hid (∃ cur, InsIn P TT x R j' cur ∧ cur.length = N ∧ Tr ad cur w (put3 (put3 Zt (ad.add (j * 3)) y) (ad.add (j' * 3)) x).drew) := by
              refine ⟨swp cur j j', HIN.out.step (by have := HP.out; omega) HJ.out (by rw [← HY.out, ← HCC.out]; exact hc), by rw [swp_len]; exact HL.out, ?_⟩
              have q := TZ.out.swap JL.out JL'.out
              rw [HIN.out.here, ← HY.out] at q
              exact q.drew
            clear TZ ja
            go_wp2_with fail
            go_region
            clear s1 s2 s3 s4 s5 x0 x1 x2 y0 y1 y2 fx0 fx1 fx2 fy0 fy1 fy2
            go_wp2_with fail
            go_roundg j'
            case measure => have := HQ2.out; have := HJ.out; omega
            case rel =>
              go_light
              exact ⟨j', by first | rfl | go_num, Nat.le_refl _, by have := HJ.out; omega, by have := HJ.out; omega, TS⟩
          · have HO := Lib.hid (OUT.out cur j HIN.out (Or.inr ⟨j', HJ.out, by rw [← HY.out, ← HCC.out]; omega⟩))
            go_wp2_with fail
            go_roundg (X - 1)
            case measure => have := HQ.out; omega
            case rel =>
              go_light
              exact ⟨k + 1, by have := HI.out; go_num, by omega, by have := HQ.out; omega, ⟨cur, HO.out, HL.out, TZ.out⟩⟩
        · obtain rfl : j = a := by omega
          have ja1 : decide ((j : Int) > (j : Int)) = false := decide_eq_false (by omega)
          have ja2 : ¬ (j : Int) < j := by omega
          have HO := Lib.hid (OUT.out cur j II (Or.inl (by have := HP.out; omega)))
          have TD := Lib.hid T.drew
          have HL := Lib.hid hl
          clear II T hl ja hq
          go_wp2_with fail
          go_region
          generalize wr.drew = Zt at *
          go_wp2_with fail
          go_roundg (X - 1)
          case measure => have := HQ.out; omega
          case rel =>
            go_light
            exact ⟨k + 1, by have := HI.out; go_num, by omega, by have := HQ.out; omega, ⟨cur, HO.out, HL.out, TD.out⟩⟩
    · have i1 : ¬ (i : Int) < ((a + n : Nat) : Int) := by omega
      have EN : Hid (∃ S', IsSort S S' ∧ Tr ad (P ++ (S' ++ Q)) w wr) := by
        obtain ⟨T3, rfl, st⟩ := HO
        rw [List.take_of_length_le (by have := HS.out; omega)] at st
        refine ⟨T3, st, ?_⟩
        rw [List.drop_eq_nil_of_le (by have := HS.out; omega)] at T
        exact T
      clear HO T hl hq lt
      go_wp2_with fail
      go_end0
      exact ⟨rfl, EN.out⟩
end Go.Proofs.YthollkngfibgaaaDoor
namespace Go.Proofs.YthollkngfibgaaaDoor
open Go.RowKit
set_option linter.unusedVariables false
set_option linter.unusedSimpArgs false
set_option maxHeartbeats 2000000
set_option maxRecDepth 100000
/-- One item is on its way over a stretch: t of it are passed. -/
def Mv (A B C : List It) (x : It) (t : Nat) : List It := A ++ (B.take t ++ x :: (B.drop t ++ C))
section
variable {A B C : List It} {x : It} {t i j : Nat}
theorem Mv.len (h : t ≤ B.length) : (Mv A B C x t).length = A.length + B.length + 1 + C.length := by
  simp only [Mv, List.length_append, List.length_cons, List.length_take, List.length_drop]; omega
theorem Mv.fin : Mv A B C x B.length = A ++ (B ++ x :: C) := by unfold Mv; rw [List.take_length, List.drop_length]; rfl
theorem Mv.start : Mv A B C x 0 = A ++ x :: (B ++ C) := by simp [Mv]
theorem Mv.up (h : t < B.length) (hi : i = A.length + t) (hj : j = i + 1) : swp (Mv A B C x t) i j = Mv A B C x (t + 1) := by
  have e1 : B.drop t = B[t] :: B.drop (t + 1) := List.drop_eq_getElem_cons h
  have e2 : B.take (t + 1) = B.take t ++ [B[t]] := List.take_succ_eq_append_getElem h
  have e := swp_next (A ++ B.take t) (B.drop (t + 1) ++ C) x B[t] (i := i) (j := j) (by rw [List.length_append, List.length_take]; omega) (by rw [List.length_append, List.length_take]; omega)
  unfold Mv
  rw [e1, e2]
  simpa only [List.append_assoc, List.cons_append, List.nil_append] using e
theorem Mv.down (h : t < B.length) (hi : i = A.length + t + 1) (hj : i = j + 1) : swp (Mv A B C x (t + 1)) i j = Mv A B C x t := by
  have e1 : B.drop t = B[t] :: B.drop (t + 1) := List.drop_eq_getElem_cons h
  have e2 : B.take (t + 1) = B.take t ++ [B[t]] := List.take_succ_eq_append_getElem h
  have e := swp_next (A ++ B.take t) (B.drop (t + 1) ++ C) B[t] x (i := j) (j := i) (by rw [List.length_append, List.length_take]; omega) (by rw [List.length_append, List.length_take]; omega)
  rw [swp_comm]
  unfold Mv
  rw [e1, e2]
  simpa only [List.append_assoc, List.cons_append, List.nil_append] using e
end
/-- Where one item comes among a stretch in order, ahead of those that don't stand ahead of it. -/
theorem one_end {V : List It} {x : It} {k : Nat} (s : Sorted V) (m : May V) (hx : 0 < x.w) (hk : k ≤ V.length) (a : k = 0 ∨ ∃ k', k = k' + 1 ∧ cmpI (nth V k') x < 0) (b : k = V.length ∨ ¬ cmpI (nth V k) x < 0) : IsSort (x :: V) (V.take k ++ x :: V.drop k) := by
  have h1 : ∀ y ∈ V.take k, cmpI y x < 0 := by
    rcases a with rfl | ⟨k', rfl, a⟩
    · intro y hy; exact absurd hy (by simp)
    · exact s.upto_lt m hx (by omega) a
  have h2 : ∀ y ∈ V.drop k, cmpI x y ≤ 0 := by
    by_cases e : k = V.length
    · rw [List.drop_eq_nil_of_le (by omega)]; intro y hy; exact absurd hy (by simp)
    · exact s.from_ m hx (by omega) (cmpI_ge (b.resolve_left e))
  have mx : May [x] := fun y hy => by rw [List.mem_singleton] at hy; exact hy ▸ hx
  have k1 : Keeps (x :: V) (V.take k ++ x :: V.drop k) := by
    have := (Keeps.turn mx (X := [x]) (Y := V.take k) (fun y hy => m y (List.mem_of_mem_take hy)) (fun z hz y hy => by rw [List.mem_singleton] at hz; exact hz ▸ h1 y hy)).app (Keeps.refl (V.drop k))
    have e : [x] ++ V.take k ++ V.drop k = x :: V := by rw [List.append_assoc, List.take_append_drop]; rfl
    rw [e] at this
    simpa using this
  refine k1.sort ((s.take k).mk (List.pairwise_cons.2 ⟨h2, s.drop k⟩) fun y hy z hz => ?_)
  rcases List.mem_cons.1 hz with rfl | hz
  · exact Int.le_of_lt (h1 y hy)
  · have := s; rw [← List.take_append_drop k V] at this
    exact this.cross y hy z hz
/-- .. or behind those that don't stand behind it. -/
theorem last_end {U : List It} {y : It} {k : Nat} (s : Sorted U) (m : May U) (hy : 0 < y.w) (hk : k ≤ U.length) (a : k = 0 ∨ ∃ k', k = k' + 1 ∧ ¬ cmpI y (nth U k') < 0) (b : k = U.length ∨ cmpI y (nth U k) < 0) : IsSort (U ++ [y]) (U.take k ++ y :: U.drop k) := by
  refine (isSort_of_sorted s).put m hy k ?_ ?_
  · rcases a with rfl | ⟨k', rfl, a⟩
    · intro y hy; exact absurd hy (by simp)
    · exact s.upto m hy (by omega) (cmpI_ge a)
  · by_cases e : k = U.length
    · rw [List.drop_eq_nil_of_le (by omega)]; intro y hy; exact absurd hy (by simp)
    · exact s.from_lt m hy (by omega) (b.resolve_left e)
/-- How far the search is: from i to j. -/
def Se1 (cur : List It) (x : It) (m b i j : Nat) : Prop := (i = m ∨ ∃ i', i = i' + 1 ∧ cmpI (nth cur i') x < 0) ∧ (j = b ∨ ¬ cmpI (nth cur j) x < 0)
theorem sym_one {ad : Addr} {P V Q : List It} {x : It} {N c a m b : Nat} {w : World} (KC : CmpOk) (h : Row3 w ad (P ++ (x :: (V ++ Q)))) (sv : Sorted V) (mx : 0 < x.w) (mv : May V) (ha : P.length = a) (hm : P.length + 1 = m) (hb : P.length + 1 + V.length = b) (hN : P.length + 1 + V.length + Q.length = N) (hs : N ≤ 100000) :
    Calls Tryd.prog 75 #[.slice (some ad) N c, .int .i64 (a : Int), .int .i64 (m : Int), .int .i64 (b : Int), .func (.func 13) #[] #[]] w fun e w' => e = .returned (.tuple #[]) ∧ ∃ W, IsSort (x :: V) W ∧ Tr ad (P ++ (W ++ Q)) w w' := by
  have eg := enters_of Tryd.func13 (by kernel_rfl) rfl
  obtain ⟨cur, hcur⟩ : ∃ cur, cur = P ++ (x :: (V ++ Q)) := ⟨_, rfl⟩
  rw [← hcur] at h
  have hl : cur.length = N := by rw [hcur]; simp only [List.length_append, List.length_cons]; omega
  have hx : nth cur a = x := by rw [hcur, ← ha]; exact nth_mid _ _ _
  have hV : ∀ k, k < V.length → nth cur (m + k) = nth V k := fun k hk => by
    rw [hcur, ← hm]
    have := nth_v P [x] V Q hk
    simpa using this
  have R0 : Hid (Se1 cur x m b m b) := ⟨.inl rfl, .inl rfl⟩
  have T0 := Lib.hid (Tr.refl h)
  have FX := Lib.hid (show x.Fit by rw [← hx]; exact h.ft (by omega))
  have HL := Lib.hid hl; have HX := Lib.hid hx; have HV := Lib.hid hV; have KC := Lib.hid KC; have SV := Lib.hid sv; have MV := Lib.hid mv; have MX := Lib.hid mx; have HC := Lib.hid hcur
  have HP := Lib.hid ha; have HVb := Lib.hid (show m + V.length = b by omega)
  have AM := Lib.hid (show m = a + 1 by omega)
  have mb : m ≤ b := by omega
  have bN : b ≤ N := by omega
  have e1 : IntKind.i64.wrap ((m : Int) - a) = 1 := by rw [IntKind.wrap_i64]; omega
  have a0 : (0 : Int) ≤ (a : Int) := by omega
  have aN : (a : Int) < N := by omega
  clear h sv mx mv ha hm hb hN hl hx hV hcur
  go_enter Tryd.func75, Tryd.ntmps75
  go_wp2_with fail
  go_loopg [10, 11] (b - m) (fun q s10 s11 wr => ∃ i j : Nat, s10 = .int .i64 (i : Int) ∧ s11 = .int .i64 (j : Int) ∧ m ≤ i ∧ i ≤ j ∧ j ≤ b ∧ j - i ≤ q ∧ Hid (Se1 cur x m b i j) ∧ Hid (Tr ad cur w wr))
  case atStart => exact ⟨m, b, rfl, rfl, Nat.le_refl _, mb, Nat.le_refl _, Nat.le_refl _, R0, T0⟩
  case round =>
    obtain ⟨i, j, rfl, rfl, mi, ij, jb, hq, S, T⟩ := hrel
    clear R0 T0
    have HQ := Lib.hid hq
    clear hq
    by_cases lt : i < j
    · have lt1 : (i : Int) < j := by omega
      obtain ⟨g, hg⟩ : ∃ g, g = (i + j) / 2 := ⟨_, rfl⟩
      have w1 : IntKind.i64.wrap ((i : Int) + j) = ((i + j : Nat) : Int) := by rw [IntKind.wrap_i64]; omega
      have hg1 : ((i : Int) + j) / 2 = (g : Int) := by omega
      have ig : i ≤ g := by omega
      have gj : g < j := by omega
      have p1 : (0 : Int) ≤ (g : Int) := by omega
      have p2 : (g : Int) < N := by omega
      have AL := Lib.hid (show a < cur.length by have := HL.out; omega)
      have GL := Lib.hid (show g < cur.length by have := HL.out; omega)
      obtain ⟨y0, y1, y2⟩ := T.out.row.cell AL.out
      obtain ⟨x0, x1, x2⟩ := T.out.row.cell GL.out
      rw [HX.out] at y0 y1 y2
      obtain ⟨v, hv⟩ : ∃ v, v = nth cur g := ⟨_, rfl⟩
      have fv := T.out.row.ft GL.out
      rw [← hv] at x0 x1 x2 fv
      have K := Lib.hid (KC.out v x fv FX.out)
      obtain ⟨cc, hcc⟩ : ∃ cc, cc = cmpI v x := ⟨_, rfl⟩
      rw [← hcc] at K
      have HVV := Lib.hid hv; have HCC := Lib.hid hcc
      clear hg hv hcc fv w1 lt
      go_wp2_with fail
      go_region_held3 (fun w' => w'.cell? (ad.add (g * 3)) = some (.string v.k) ∧ w'.cell? ⟨(ad.add (g * 3)).block, (ad.add (g * 3)).off + 1, none⟩ = some (.int .u64 (v.u : Int)) ∧ w'.cell? ⟨(ad.add (g * 3)).block, (ad.add (g * 3)).off + 2, none⟩ = some (.int .u64 (v.w : Int)) ∧ w'.cell? (ad.add (a * 3)) = some (.string x.k) ∧ w'.cell? ⟨(ad.add (a * 3)).block, (ad.add (a * 3)).off + 1, none⟩ = some (.int .u64 (x.u : Int)) ∧ w'.cell? ⟨(ad.add (a * 3)).block, (ad.add (a * 3)).off + 2, none⟩ = some (.int .u64 (x.w : Int)))
        ((refine ⟨?_, ?_, ?_, ?_, ?_, ?_⟩ <;> (repeat (first | with_reducible exact x0 | with_reducible exact x1 | with_reducible exact x2 | with_reducible exact y0 | with_reducible exact y1 | with_reducible exact y2 | with_reducible refine keep_drew ?_ | with_reducible refine keep_cell (by assumption) ?_))))
        (first | (go_at_call 13; (with_reducible refine (K.out _).mono ?_); rintro e Zt ⟨rfl, BZ⟩))
      have TZ := Lib.hid (T.out.drew.next BZ)
      clear x0 x1 x2 y0 y1 y2 T BZ K
      by_cases hc : cc < 0
      · have S2 : Hid (Se1 cur x m b (g + 1) j) := ⟨.inr ⟨g, rfl, by rw [← HVV.out, ← HCC.out]; exact hc⟩, S.out.2⟩
        have w2 : IntKind.i64.wrap ((g : Int) + 1) = ((g + 1 : Nat) : Int) := by rw [IntKind.wrap_i64]; omega
        go_wp2_with fail
        go_roundg (gk - 1)
        case measure => have := HQ.out; omega
        case rel =>
          go_light
          exact ⟨g + 1, j, by go_num, rfl, by omega, by omega, jb, by have := HQ.out; omega, S2, TZ⟩
      · have S2 : Hid (Se1 cur x m b i g) := ⟨S.out.1, .inr (by rw [← HVV.out, ← HCC.out]; exact hc)⟩
        go_wp2_with fail
        go_roundg (gk - 1)
        case measure => have := HQ.out; omega
        case rel =>
          go_light
          exact ⟨i, g, rfl, rfl, mi, ig, by omega, by have := HQ.out; omega, S2, TZ⟩
    · obtain rfl : i = j := by omega
      have lt1 : ¬ (i : Int) < i := by omega
      obtain ⟨k, hk⟩ : ∃ k, i = m + k := ⟨i - m, by omega⟩
      have kV : k ≤ V.length := by have := HVb.out; omega
      have SE := Lib.hid (one_end SV.out MV.out MX.out kV (by
        rcases S.out.1 with e | ⟨i', e, h⟩
        · left; omega
        · by_cases k0 : k = 0
          · exact .inl k0
          · refine .inr ⟨k - 1, by omega, ?_⟩
            rw [← HV.out (k - 1) (by omega), show m + (k - 1) = i' by omega]; exact h) (by
        rcases S.out.2 with e | h
        · left; have := HVb.out; omega
        · by_cases k0 : k = V.length
          · exact .inl k0
          · right; rw [← HV.out k (by omega), ← hk]; exact h))
      have M0 : Hid (Tr ad (Mv P (V.take k) (V.drop k ++ Q) x 0) w wr) := by
        have := T.out
        rw [HC.out] at this
        rw [Mv.start, ← List.append_assoc (V.take k), List.take_append_drop]
        exact this
      have VK := Lib.hid (show (V.take k).length = k by rw [List.length_take]; omega)
      have LM : Hid (∀ t, t ≤ k → (Mv P (V.take k) (V.drop k ++ Q) x t).length = N) := fun t ht => by
        rw [Mv.len (by rw [VK.out]; exact ht), VK.out]
        have := HL.out; rw [HC.out] at this
        simp only [List.length_append, List.length_cons, List.length_drop] at *; omega
      have kb : m + k ≤ b := by omega
      have w3 : IntKind.i64.wrap ((i : Int) - 1) = ((a + k : Nat) : Int) := by have := AM.out; rw [IntKind.wrap_i64]; omega
      have akN : a + k < N := by have := AM.out; omega
      clear S T mi ij jb lt hk HV SV MV MX HC HL HX AM HVb
      obtain ⟨z, hz⟩ : ∃ z, z = a + k := ⟨_, rfl⟩
      rw [← hz] at w3
      have HZ := Lib.hid hz
      clear hz
      generalize V.take k = V1 at *
      go_wp2_with fail
      go_loopg [13] k (fun q s13 wt => ∃ t : Nat, s13 = .int .i64 ((a + t : Nat) : Int) ∧ t ≤ k ∧ k ≤ q + t ∧ Hid (Tr ad (Mv P V1 (V.drop k ++ Q) x t) w wt))
      case atStart => exact ⟨0, by go_num, Nat.zero_le _, by omega, M0⟩
      case round =>
        obtain ⟨t, rfl, tk, hq, TM⟩ := hrel
        clear M0
        have HQ2 := Lib.hid hq
        obtain ⟨f, hf⟩ : ∃ f, f = a + t := ⟨_, rfl⟩
        rw [← hf]
        by_cases lt : t < k
        · have lt2 : (f : Int) < z := by have := HZ.out; omega
          obtain ⟨f', hf'⟩ : ∃ f', f' = f + 1 := ⟨_, rfl⟩
          have w4 : IntKind.i64.wrap ((f : Int) + 1) = (f' : Int) := by rw [IntKind.wrap_i64]; omega
          have w5 : (f : Int) + 1 = (f' : Int) := by omega
          have p1 : (0 : Int) ≤ (f : Int) := by omega
          have p2 : (f : Int) < N := by omega
          have p3 : (0 : Int) ≤ (f' : Int) := by omega
          have p4 : (f' : Int) < N := by omega
          have L := LM.out t tk
          have IL := Lib.hid (show f < (Mv P V1 (V.drop k ++ Q) x t).length by omega)
          have JL := Lib.hid (show f' < (Mv P V1 (V.drop k ++ Q) x t).length by omega)
          have TS := Lib.hid (TM.out.swap IL.out JL.out).drew
          rw [Mv.up (by rw [VK.out]; exact lt) (by have := HP.out; omega) hf'] at TS
          obtain ⟨x0, x1, x2⟩ := TM.out.row.cell IL.out
          obtain ⟨y0, y1, y2⟩ := TM.out.row.cell JL.out
          obtain ⟨fx0, fx1, fx2⟩ := TM.out.row.melts (f * 3)
          obtain ⟨fy0, fy1, fy2⟩ := TM.out.row.melts (f' * 3)
          obtain ⟨s1, s2, s3, s4, s5⟩ := TM.out.row.stores IL.out JL.out (by omega) (nth (Mv P V1 (V.drop k ++ Q) x t) f) (nth (Mv P V1 (V.drop k ++ Q) x t) f')
          generalize nth (Mv P V1 (V.drop k ++ Q) x t) f = u at *
          generalize nth (Mv P V1 (V.drop k ++ Q) x t) f' = v at *
          have HF := Lib.hid hf; have HF' := Lib.hid hf'; have LT := Lib.hid lt
          clear IL JL L TM hf hf' lt hq w5
          go_wp2_with fail
          go_region
          clear s1 s2 s3 s4 s5 x0 x1 x2 y0 y1 y2 fx0 fx1 fx2 fy0 fy1 fy2
          go_wp2_with fail
          go_roundg (gk - 1)
          case measure => have := HQ2.out; have := LT.out; omega
          case rel =>
            go_light
            exact ⟨t + 1, by have := HF.out; have := HF'.out; go_num, LT.out, by have := HQ2.out; omega, TS⟩
        · have tk2 : t = k := by omega
          have lt2 : ¬ (f : Int) < z := by have := HZ.out; omega
          have TE : Hid (Tr ad (P ++ ((V1 ++ x :: V.drop k) ++ Q)) w wr) := by
            unfold Hid
            have := TM.out
            rw [tk2, show k = V1.length from VK.out.symm, Mv.fin] at this
            rw [VK.out] at this
            simpa using this
          clear TM hq lt hf tk2
          go_wp2_with fail
          refine bodyPost_ret (results_none rfl _ _ _) rfl ?_
          exact ⟨rfl, _, SE.out, TE.out⟩
end Go.Proofs.YthollkngfibgaaaDoor
namespace Go.Proofs.YthollkngfibgaaaDoor
open Go.RowKit
set_option linter.unusedVariables false
set_option linter.unusedSimpArgs false
set_option maxHeartbeats 2000000
set_option maxRecDepth 100000
/-- How far the search is: from i to j. -/
def Se2 (cur : List It) (y : It) (a m i j : Nat) : Prop := (i = a ∨ ∃ i', i = i' + 1 ∧ ¬ cmpI y (nth cur i') < 0) ∧ (j = m ∨ cmpI y (nth cur j) < 0)
theorem sym_last {ad : Addr} {P U Q : List It} {y : It} {N c a m b : Nat} {w : World} (KC : CmpOk) (h : Row3 w ad (P ++ (U ++ (y :: Q)))) (su : Sorted U) (my : 0 < y.w) (mu : May U) (h1 : U.length ≠ 1) (ha : P.length = a) (hm : P.length + U.length = m) (hb : P.length + U.length + 1 = b) (hN : P.length + U.length + 1 + Q.length = N) (hs : N ≤ 100000) :
    Calls Tryd.prog 75 #[.slice (some ad) N c, .int .i64 (a : Int), .int .i64 (m : Int), .int .i64 (b : Int), .func (.func 13) #[] #[]] w fun e w' => e = .returned (.tuple #[]) ∧ ∃ W, IsSort (U ++ [y]) W ∧ Tr ad (P ++ (W ++ Q)) w w' := by
  have eg := enters_of Tryd.func13 (by kernel_rfl) rfl
  obtain ⟨cur, hcur⟩ : ∃ cur, cur = P ++ (U ++ (y :: Q)) := ⟨_, rfl⟩
  rw [← hcur] at h
  have hl : cur.length = N := by rw [hcur]; simp only [List.length_append, List.length_cons]; omega
  have hx : nth cur m = y := by
    rw [hcur, ← hm]
    have := nth_v P U [y] Q (i := 0) (by simp)
    have e : nth [y] 0 = y := nth_some rfl
    rw [e] at this
    simpa using this
  have hU : ∀ k, k < U.length → nth cur (a + k) = nth U k := fun k hk => by
    rw [hcur, ← ha]
    exact nth_u P U [y] Q hk
  have R0 : Hid (Se2 cur y a m a m) := ⟨.inl rfl, .inl rfl⟩
  have T0 := Lib.hid (Tr.refl h)
  have FY := Lib.hid (show y.Fit by rw [← hx]; exact h.ft (by omega))
  have HL := Lib.hid hl; have HX := Lib.hid hx; have HU := Lib.hid hU; have KC := Lib.hid KC; have SU := Lib.hid su; have MU := Lib.hid mu; have MY := Lib.hid my; have HC := Lib.hid hcur
  have HP := Lib.hid ha; have HUb := Lib.hid (show a + U.length = m by omega)
  have am : a ≤ m := by omega
  have BM := Lib.hid (show b = m + 1 by omega)
  have mN : m < N := by omega
  have e0 : ¬ ((m : Int) - a) = 1 := by omega
  have e0' : (((m : Int) - a) == 1) = false := by simpa using e0
  have e1 : IntKind.i64.wrap ((b : Int) - m) = 1 := by rw [IntKind.wrap_i64]; omega
  have m0 : (0 : Int) ≤ (m : Int) := by omega
  have mN' : (m : Int) < N := by omega
  clear h su my mu ha hm hb hN hl hx hU hcur h1
  go_enter Tryd.func75, Tryd.ntmps75
  go_wp2_with fail
  go_loopg [14, 15] (m - a) (fun q s14 s15 wr => ∃ i j : Nat, s14 = .int .i64 (i : Int) ∧ s15 = .int .i64 (j : Int) ∧ a ≤ i ∧ i ≤ j ∧ j ≤ m ∧ j - i ≤ q ∧ Hid (Se2 cur y a m i j) ∧ Hid (Tr ad cur w wr))
  case atStart => exact ⟨a, m, rfl, rfl, Nat.le_refl _, am, Nat.le_refl _, Nat.le_refl _, R0, T0⟩
  case round =>
    obtain ⟨i, j, rfl, rfl, ai, ij, jm, hq, S, T⟩ := hrel
    clear R0 T0
    have HQ := Lib.hid hq
    clear hq
    by_cases lt : i < j
    · have lt1 : (i : Int) < j := by omega
      obtain ⟨g, hg⟩ : ∃ g, g = (i + j) / 2 := ⟨_, rfl⟩
      have hg1 : ((i : Int) + j) / 2 = (g : Int) := by omega
      have ig : i ≤ g := by omega
      have gj : g < j := by omega
      have p1 : (0 : Int) ≤ (g : Int) := by omega
      have p2 : (g : Int) < N := by omega
      have ML := Lib.hid (show m < cur.length by have := HL.out; omega)
      have GL := Lib.hid (show g < cur.length by have := HL.out; omega)
      obtain ⟨x0, x1, x2⟩ := T.out.row.cell ML.out
      obtain ⟨y0, y1, y2⟩ := T.out.row.cell GL.out
      rw [HX.out] at x0 x1 x2
      obtain ⟨v, hv⟩ : ∃ v, v = nth cur g := ⟨_, rfl⟩
      have fv := T.out.row.ft GL.out
      rw [← hv] at y0 y1 y2 fv
      have K := Lib.hid (KC.out y v FY.out fv)
      obtain ⟨cc, hcc⟩ : ∃ cc, cc = cmpI y v := ⟨_, rfl⟩
      rw [← hcc] at K
      have HVV := Lib.hid hv; have HCC := Lib.hid hcc
      clear hg hv hcc fv lt
      go_wp2_with fail
      go_region_held3 (fun w' => w'.cell? (ad.add (m * 3)) = some (.string y.k) ∧ w'.cell? ⟨(ad.add (m * 3)).block, (ad.add (m * 3)).off + 1, none⟩ = some (.int .u64 (y.u : Int)) ∧ w'.cell? ⟨(ad.add (m * 3)).block, (ad.add (m * 3)).off + 2, none⟩ = some (.int .u64 (y.w : Int)) ∧ w'.cell? (ad.add (g * 3)) = some (.string v.k) ∧ w'.cell? ⟨(ad.add (g * 3)).block, (ad.add (g * 3)).off + 1, none⟩ = some (.int .u64 (v.u : Int)) ∧ w'.cell? ⟨(ad.add (g * 3)).block, (ad.add (g * 3)).off + 2, none⟩ = some (.int .u64 (v.w : Int)))
        ((refine ⟨?_, ?_, ?_, ?_, ?_, ?_⟩ <;> (repeat (first | with_reducible exact x0 | with_reducible exact x1 | with_reducible exact x2 | with_reducible exact y0 | with_reducible exact y1 | with_reducible exact y2 | with_reducible refine keep_drew ?_ | with_reducible refine keep_cell (by assumption) ?_))))
        (first | (go_at_call 13; (with_reducible refine (K.out _).mono ?_); rintro e Zt ⟨rfl, BZ⟩))
      have TZ := Lib.hid (T.out.drew.next BZ)
      clear x0 x1 x2 y0 y1 y2 T BZ K
      generalize hbb : decide (cc < 0) = bb
      cases bb
      · have hc : ¬ cc < 0 := of_decide_eq_false hbb
        have S2 : Hid (Se2 cur y a m (g + 1) j) := ⟨.inr ⟨g, rfl, by rw [← HVV.out, ← HCC.out]; exact hc⟩, S.out.2⟩
        have w2 : IntKind.i64.wrap ((g : Int) + 1) = ((g + 1 : Nat) : Int) := by rw [IntKind.wrap_i64]; omega
        clear hc hbb
        go_wp2_with fail
        go_roundg (gk - 1)
        case measure => have := HQ.out; omega
        case rel =>
          go_light
          exact ⟨g + 1, j, by go_num, rfl, by omega, by omega, jm, by have := HQ.out; omega, S2, TZ⟩
      · have hc : cc < 0 := of_decide_eq_true hbb
        have S2 : Hid (Se2 cur y a m i g) := ⟨S.out.1, .inr (by rw [← HVV.out, ← HCC.out]; exact hc)⟩
        clear hc hbb
        go_wp2_with fail
        go_roundg (gk - 1)
        case measure => have := HQ.out; omega
        case rel =>
          go_light
          exact ⟨i, g, rfl, rfl, ai, ig, by omega, by have := HQ.out; omega, S2, TZ⟩
    · obtain rfl : i = j := by omega
      have lt1 : ¬ (i : Int) < i := by omega
      obtain ⟨k, hk⟩ : ∃ k, i = a + k := ⟨i - a, by omega⟩
      have kU : k ≤ U.length := by have := HUb.out; omega
      have SE := Lib.hid (last_end SU.out MU.out MY.out kU (by
        rcases S.out.1 with e | ⟨i', e, h⟩
        · left; omega
        · by_cases k0 : k = 0
          · exact .inl k0
          · refine .inr ⟨k - 1, by omega, ?_⟩
            rw [← HU.out (k - 1) (by omega), show a + (k - 1) = i' by omega]; exact h) (by
        rcases S.out.2 with e | h
        · left; have := HUb.out; omega
        · by_cases k0 : k = U.length
          · exact .inl k0
          · right; rw [← HU.out k (by omega), ← hk]; exact h))
      obtain ⟨r, hr⟩ : ∃ r, r = (U.drop k).length := ⟨_, rfl⟩
      have RU : r = U.length - k := by rw [hr, List.length_drop]
      have M0 : Hid (Tr ad (Mv (P ++ U.take k) (U.drop k) Q y r) w wr) := by
        unfold Hid
        rw [hr, Mv.fin]
        have := T.out
        rw [HC.out] at this
        rw [List.append_assoc, ← List.append_assoc (U.take k), List.take_append_drop]
        exact this
      have DK := Lib.hid hr
      have LM : Hid (∀ t, t ≤ r → (Mv (P ++ U.take k) (U.drop k) Q y t).length = N) := fun t ht => by
        rw [Mv.len (by rw [← DK.out]; exact ht), ← DK.out]
        have := HL.out; rw [HC.out] at this
        simp only [List.length_append, List.length_cons, List.length_take] at *; omega
      have PL := Lib.hid (show (P ++ U.take k).length = i by rw [List.length_append, List.length_take]; have := HP.out; omega)
      have ir : m = i + r := by have := HUb.out; omega
      have IR := Lib.hid ir
      have TKE := Lib.hid (show U.take k ++ y :: U.drop k = U.take k ++ y :: U.drop k from rfl)
      clear S T jm ai ij lt hk HU SU MU MY HC HL HX HUb RU hr kU ir
      generalize hU1 : U.take k = U1 at *
      generalize hU2 : U.drop k = U2 at *
      clear hU1 hU2
      go_wp2_with fail
      go_loopg [17] r (fun q s17 wt => ∃ t : Nat, s17 = .int .i64 ((i + t : Nat) : Int) ∧ t ≤ q ∧ t ≤ r ∧ Hid (Tr ad (Mv (P ++ U1) U2 Q y t) w wt))
      case atStart => exact ⟨r, by have := IR.out; go_num, Nat.le_refl _, Nat.le_refl _, M0⟩
      case round =>
        obtain ⟨t, rfl, hq, tr, TM⟩ := hrel
        clear M0
        have HQ2 := Lib.hid hq
        obtain ⟨f, hf⟩ : ∃ f, f = i + t := ⟨_, rfl⟩
        rw [← hf]
        by_cases lt : 0 < t
        · obtain ⟨t', ht'⟩ : ∃ t', t = t' + 1 := ⟨t - 1, by omega⟩
          obtain ⟨f', hf'⟩ : ∃ f', f = f' + 1 := ⟨f - 1, by omega⟩
          have lt2 : (i : Int) < f := by omega
          have w4 : IntKind.i64.wrap ((f : Int) - 1) = (f' : Int) := by rw [IntKind.wrap_i64]; have := IR.out; omega
          have fN : f < N := by have := IR.out; omega
          have p1 : (0 : Int) ≤ (f : Int) := by omega
          have p2 : (f : Int) < N := by omega
          have p3 : (0 : Int) ≤ (f' : Int) := by omega
          have p4 : (f' : Int) < N := by omega
          have L := LM.out t tr
          have IL := Lib.hid (show f < (Mv (P ++ U1) U2 Q y t).length by omega)
          have JL := Lib.hid (show f' < (Mv (P ++ U1) U2 Q y t).length by omega)
          have TS : Hid (Tr ad (Mv (P ++ U1) U2 Q y t') w (put3 (put3 wr (ad.add (f * 3)) (nth (Mv (P ++ U1) U2 Q y t) f')) (ad.add (f' * 3)) (nth (Mv (P ++ U1) U2 Q y t) f)).drew) := by
            have q := (TM.out.swap IL.out JL.out).drew
            have e := Mv.down (A := P ++ U1) (B := U2) (C := Q) (x := y) (t := t') (i := f) (j := f') (by have := DK.out; omega) (by have := PL.out; omega) hf'
            rw [← ht'] at e
            rw [e] at q
            exact q
          obtain ⟨x0, x1, x2⟩ := TM.out.row.cell IL.out
          obtain ⟨y0, y1, y2⟩ := TM.out.row.cell JL.out
          obtain ⟨fx0, fx1, fx2⟩ := TM.out.row.melts (f * 3)
          obtain ⟨fy0, fy1, fy2⟩ := TM.out.row.melts (f' * 3)
          obtain ⟨s1, s2, s3, s4, s5⟩ := TM.out.row.stores IL.out JL.out (by omega) (nth (Mv (P ++ U1) U2 Q y t) f) (nth (Mv (P ++ U1) U2 Q y t) f')
          generalize nth (Mv (P ++ U1) U2 Q y t) f = u at *
          generalize nth (Mv (P ++ U1) U2 Q y t) f' = v at *
          have HF := Lib.hid hf; have HF' := Lib.hid hf'; have HT' := Lib.hid ht'
          clear IL JL L TM hf hf' lt hq ht'
          go_wp2_with fail
          go_region
          clear s1 s2 s3 s4 s5 x0 x1 x2 y0 y1 y2 fx0 fx1 fx2 fy0 fy1 fy2
          go_wp2_with fail
          go_roundg t'
          case measure => have := HQ2.out; have := HT'.out; omega
          case rel =>
            go_light
            exact ⟨t', by have := HF.out; have := HF'.out; have := HT'.out; go_num, Nat.le_refl _, by have := HT'.out; omega, TS⟩
        · have t0 : t = 0 := by omega
          have lt2 : ¬ (i : Int) < f := by omega
          have TE : Hid (Tr ad (P ++ ((U1 ++ y :: U2) ++ Q)) w wr) := by
            unfold Hid
            have := TM.out
            rw [t0, Mv.start] at this
            simpa using this
          clear TM hq lt hf t0
          go_wp2_with fail
          refine bodyPost_ret (results_none rfl _ _ _) rfl ?_
          exact ⟨rfl, _, SE.out, TE.out⟩
end Go.Proofs.YthollkngfibgaaaDoor
