/- The document's Sort. slices.insertionSortCmpFunc: a stretch is put in order, the equal ones as they came. slices.symMergeCmpFunc where the first stretch has one item. slices.symMergeCmpFunc where the second stretch has one item, the first not. slices.symMergeCmpFunc: two stretches in order are merged, the equal ones as they came. slices.stableCmpFunc, SortStableFunc: items in order, the equal ones as they came. The walk of awake: the fixed answer of the stage. The walk of the document's Same, of fractions. Plain arithmetic: halves of limbs, of 16 bits each. The document's answers: halves in memory; the walks of Half, Whole. Plain arithmetic: twice a number and a bit, half a number; limbs by their length. The document's answers: the walks of twice, half, even. The document's answers: the walks of Add, Sub. -/
import Derived.Test.YtnkhgkpijfohkaaJ04
import Derived.Test.YtnkhgkpijfohkaaJ01
import Derived.Test.YtnkhgkpijfohkaaJ00
import Derived.Test.YtnkhgkpijfohkaaJ02
import Derived.Test.YtnkhgkpijfohkaaJ03
namespace Go.Proofs.Ytnkhgkpijfohkaa
open Go.RowKit
set_option linter.unusedVariables false
set_option linter.unusedSimpArgs false
set_option maxHeartbeats 2000000
set_option maxRecDepth 100000
theorem take_ahead {s : List It} {x : It} (hs : Sorted s) (m : May s) (hx : 0 < x.w) {p : Nat} (hp : p + 1 ≤ s.length) (h : ¬ cmpI x s[p] < 0) : ∀ y ∈ s.take (p + 1), cmpI y x ≤ 0 := by
  intro y hy
  rw [List.take_succ_eq_append_getElem (by omega), List.mem_append, List.mem_singleton] at hy
  have e := cmpI_ge h
  rcases hy with hy | rfl
  · have : cmpI y s[p] ≤ 0 := by
      have q := hs
      rw [← List.take_append_drop p s] at q
      have := (List.pairwise_append.1 q).2.2 y hy s[p] (by rw [List.drop_eq_getElem_cons (by omega)]; exact .head _)
      exact this
    exact cmpI_trans (m _ (List.getElem_mem _)) hx (m y (List.mem_of_mem_take hy)) this e
  · exact e
theorem refSort10_any {A : Option Addr} {n c : Nat} {l : List It} {w : World} (h : Its w A n c l) (m : May l) (hn : n ≤ 1000) : Calls Try.prog 24 #[.slice A n c] w fun e w' => ∃ v s, e = .returned v ∧ IsSort l s ∧ Rw w.heap.size v s w' ∧ Below w.heap.size w w' := by
  have H := Lib.hid h
  have HL := Lib.hid h.len
  have HM := Lib.hid m
  have KC := Lib.hid (fun x y (hx : It.Fit x) (hy : It.Fit y) W => refCmp10_any x y hx hy W)
  clear h m
  have hz : (n : Int) ≤ 1000 := by omega
  go_enter Try.func24, Try.ntmps24
  go_wp2_with fail
  go_loopg [3, 4, 5, 6] n (fun q s3 s4 _ _ wr => ∃ (i : Nat) (s : List It), i + q = n ∧ s4 = .int .i64 (i : Int) ∧ Hid (IsSort (l.take i) s) ∧ Hid (Rw w.heap.size s3 s wr) ∧ Hid (Below w.heap.size w wr))
  case atStart => exact ⟨0, [], by omega, rfl, isSort_nil, Rw.nil _ _, Below.refl _ _⟩
  case round =>
    obtain ⟨i, s, hq, rfl, IS, R, BL⟩ := hrel
    have HQ := Lib.hid hq
    obtain ⟨X, rfl⟩ : ∃ X, X = gk := ⟨_, rfl⟩
    by_cases lt : i < n
    · have i1 : (i : Int) < n := by omega
      have i0 : (0 : Int) ≤ i := by omega
      obtain ⟨ad, hj, rfl, a0, a1, a2, ft⟩ := (H.out.next BL.out).read i lt
      have hsl : Hid (s.length = i) := by
        unfold Hid
        rw [IS.out.len, List.length_take, HL.out]; omega
      have FX := Lib.hid ft
      have WX : Hid (0 < l[i].w) := HM.out _ (List.getElem_mem hj)
      generalize hxx : l[i] = x at *
      have HX := Lib.hid hxx
      clear hxx ft hq
      obtain ⟨B, c3, rfl, I3, hc3, hg3⟩ := R.out.slice
      have I3 := Lib.hid I3
      have LS := Lib.hid hsl.out
      rw [hsl.out]
      have i9 : (i : Int) ≤ 1000 := by omega
      obtain ⟨Wo, rfl⟩ : ∃ W : World, W = wr := ⟨_, rfl⟩
      go_wp2_with fail
      go_loopg [5] i (fun q s5 wt => ∃ p : Nat, s5 = .int .i64 (p : Int) ∧ p = q ∧ p ≤ i ∧ Hid (∀ y ∈ s.drop p, cmpI x y < 0) ∧ Hid (Below Wo.heap.size Wo wt))
      case atStart => exact ⟨i, rfl, rfl, Nat.le_refl _, by unfold Hid; rw [← hsl.out, List.drop_length]; intro y hy; exact absurd hy (by simp), Below.refl _ _⟩
      case round =>
        obtain ⟨p, rfl, rfl, pi, DR, BT⟩ := hrel
        clear a0 a1 a2
        have p3 : (0 : Int) ≤ p := by omega
        have p2 : (p : Int) ≤ i := by omega
        by_cases hp : p = 0
        · subst hp
          have P1 : Hid (∀ y ∈ s.take 0, cmpI y x ≤ 0) := by unfold Hid; intro y hy; exact absurd hy (by simp)
          clear p2 p3
          go_wp2_with fail
          go_region
          have BZ := Lib.hid BT.out.drew
          generalize wr.drew = Zt at *
          have I4 := Lib.hid ((I3.out.next BZ.out).front 0 (by rw [hsl.out]; omega))
          have SM1 := Lib.hid (show ([] : List It).length + (s.take 0).length ≤ 1000000 by have := I4.out.len; simp only [List.length_nil]; omega)
          have SM2 := Lib.hid (show (s.take 0).length + [x].length ≤ 1000000 by have := I4.out.len; simp only [List.length_cons, List.length_nil]; omega)
          go_wp2_with (at_builtin; refine wpList_appI rfl _ _ rfl rfl (Rw.nil Zt.heap.size Zt) (Nat.le_refl _) rfl I4.out hc3 SM1.out ?_)
          intro v1 W1 R1 B1
          replace R1 : Rw Zt.heap.size v1 (s.take 0) W1 := by simpa using R1
          have BW1 := Lib.hid (BZ.out.trans (B1.mono BZ.out.size))
          obtain ⟨adx, hjx, ex, d0, d1, d2, ftx⟩ := (H.out.next (BL.out.trans (BW1.out.mono BL.out.size))).read i (by omega)
          obtain rfl := Option.some.inj ex
          rw [HX.out] at d0 d1 d2
          have R1' := Lib.hid (R1.next ((Below.refl _ _).alloc (Nat.le_refl _) (.cells #[.string x.k, .int .u64 (x.u : Int), .int .u64 (x.w : Int)] 25)))
          have H1' := Lib.hid (Nat.le_trans B1.size ((Below.refl W1.heap.size W1).alloc (Nat.le_refl _) (.cells #[.string x.k, .int .u64 (x.u : Int), .int .u64 (x.w : Int)] 25)).size)
          clear R1 ftx
          go_wp2_with (at_builtin; refine wpList_appI rfl _ _ rfl rfl R1'.out H1'.out rfl (Its.new W1 x FX.out _) (fun e => absurd e (by simp)) SM2.out ?_)
          intro v2 W2 R2 B2
          replace R2 : Rw Zt.heap.size v2 (s.take 0 ++ [x]) W2 := by simpa using R2
          have BW2 := Lib.hid ((BW1.out.alloc BW1.out.size _).trans (B2.mono BZ.out.size))
          clear d0 d1 d2
          have I5 : Hid (Its W2 B i c3 s) := by
            have q := I3.out.next BW2.out
            rw [hsl.out] at q
            exact q
          have SM3 := Lib.hid (show (s.take 0 ++ [x]).length + s.length ≤ 1000000 by rw [hsl.out, List.take_zero]; simp only [List.nil_append, List.length_cons, List.length_nil]; omega)
          go_wp2_with (at_builtin; refine wpList_appI rfl _ _ rfl rfl R2 (Nat.le_trans H1'.out B2.size) rfl I5.out hc3 SM3.out ?_)
          intro v3 W3 R3 B3
          have NS : Hid (IsSort (l.take (i + 1)) (s.take 0 ++ x :: s.drop 0)) := by
            unfold Hid
            rw [List.take_succ_eq_append_getElem hj, HX.out]
            exact IS.out.put (fun y hy => HM.out y (List.mem_of_mem_take hy)) WX.out 0 P1.out DR.out
          have RN : Hid (Rw w.heap.size v3 (s.take 0 ++ x :: s.drop 0) W3) := by
            have q := R3.mono (b' := w.heap.size) (Nat.le_trans BL.out.size BZ.out.size)
            have e : ∀ t u : List It, t = u → Rw w.heap.size v3 t W3 → Rw w.heap.size v3 u W3 := fun t u h k => h ▸ k
            exact e _ _ (by simp) q
          have BN := Lib.hid (BL.out.trans ((BW2.out.trans (B3.mono BZ.out.size)).mono BL.out.size))
          clear R3 R2 B3 B2 B1
          go_wp2_with fail
          go_roundg (X - 1)
          case measure => have := HQ.out; omega
          case rel =>
            go_light
            exact ⟨i + 1, _, by have := HQ.out; omega, by go_num, NS.out, RN.out, BN.out⟩
        · obtain ⟨p', hp'⟩ : ∃ x, p = x + 1 := ⟨p - 1, by omega⟩
          have p1 : p' < i := by omega
          have pp : (0 : Int) < p := by omega
          have ppn : 0 < p := by omega
          have pw : IntKind.i64.wrap ((p : Int) - 1) = (p' : Int) := by rw [IntKind.wrap_i64]; omega
          have p0 : (0 : Int) ≤ p' := by omega
          have pl : (p' : Int) < i := by omega
          have bt := Lib.hid (BL.out.trans (BT.out.mono BL.out.size))
          obtain ⟨ad2, hj2, e2, a0, a1, a2, ft2⟩ := (H.out.next bt.out).read i (by omega)
          obtain rfl := Option.some.inj e2
          rw [HX.out] at a0 a1 a2
          obtain ⟨ad3, hj3, rfl, b0, b1, b2, ft3⟩ := (I3.out.next BT.out).read p' (by rw [hsl.out]; omega)
          obtain ⟨y, hy⟩ : ∃ y, y = s[p'] := ⟨_, rfl⟩
          rw [← hy] at b0 b1 b2 ft3
          have HY := Lib.hid hy
          have K := Lib.hid (KC.out x y FX.out ft3)
          obtain ⟨cc, hcc⟩ : ∃ cc, cc = cmpI x y := ⟨_, rfl⟩
          rw [← hcc] at K
          have HPZ := Lib.hid hp'
          have HCC := Lib.hid hcc
          clear hy hp hp' hcc ft2 ft3
          go_wp2_with fail
          go_region_held3 (fun w' => w'.cell? (ad.add (i * 3)) = some (.string x.k) ∧ w'.cell? ⟨(ad.add (i * 3)).block, (ad.add (i * 3)).off + 1, none⟩ = some (.int .u64 (x.u : Int)) ∧ w'.cell? ⟨(ad.add (i * 3)).block, (ad.add (i * 3)).off + 2, none⟩ = some (.int .u64 (x.w : Int)) ∧
              w'.cell? (ad3.add (p' * 3)) = some (.string y.k) ∧ w'.cell? ⟨(ad3.add (p' * 3)).block, (ad3.add (p' * 3)).off + 1, none⟩ = some (.int .u64 (y.u : Int)) ∧ w'.cell? ⟨(ad3.add (p' * 3)).block, (ad3.add (p' * 3)).off + 2, none⟩ = some (.int .u64 (y.w : Int)))
            ((refine ⟨?_, ?_, ?_, ?_, ?_, ?_⟩ <;> (repeat (first | with_reducible exact a0 | with_reducible exact a1 | with_reducible exact a2 | with_reducible exact b0 | with_reducible exact b1 | with_reducible exact b2 | with_reducible refine keep_drew ?_ | with_reducible refine keep_cell (by assumption) ?_))))
            (first | (go_at_call 31; (with_reducible refine (K.out _).mono ?_); rintro e Zt ⟨rfl, BZ⟩))
          replace BZ := Lib.hid (BT.out.drew.trans (BZ.mono BT.out.drew.size))
          by_cases hc : cc < 0
          · have DR2 : Hid (∀ y ∈ s.drop p', cmpI x y < 0) := by
              unfold Hid
              rw [List.drop_eq_getElem_cons hj3]
              intro z hz
              rcases List.mem_cons.1 hz with rfl | hz
              · rw [← HY.out, ← HCC.out]; exact hc
              · exact DR.out z (by rw [HPZ.out]; exact hz)
            go_wp2_with fail
            go_roundg p'
            case measure => have := HPZ.out; omega
            case rel =>
              go_light
              exact ⟨p', by first | rfl | go_num, rfl, by omega, DR2.out, BZ.out⟩
          · have P1 : Hid (∀ y ∈ s.take p, cmpI y x ≤ 0) := by
              unfold Hid
              have q := take_ahead IS.out.sorted (IS.out.may (fun y hy => HM.out y (List.mem_of_mem_take hy))) WX.out hj3 (x := x) (by rw [← HY.out, ← HCC.out]; exact hc)
              rw [HPZ.out]
              exact q
            clear a0 a1 a2 b0 b1 b2
            have pc : p ≤ c3 := by have := I3.out.cap; rw [hsl.out] at this; omega
            have pcI : (p : Int) ≤ c3 := by omega
            have I4 := Lib.hid ((I3.out.next BZ.out).front p (by rw [hsl.out]; omega))
            have SM1 := Lib.hid (show ([] : List It).length + (s.take p).length ≤ 1000000 by have := I4.out.len; simp only [List.length_nil]; omega)
            have SM2 := Lib.hid (show (s.take p).length + [x].length ≤ 1000000 by have := I4.out.len; simp only [List.length_cons, List.length_nil]; omega)
            go_wp2_with (at_builtin; refine wpList_appI rfl _ _ rfl rfl (Rw.nil Zt.heap.size Zt) (Nat.le_refl _) rfl I4.out hc3 SM1.out ?_)
            intro v1 W1 R1 B1
            replace R1 : Rw Zt.heap.size v1 (s.take p) W1 := by simpa using R1
            have BW1 := Lib.hid (BZ.out.trans (B1.mono BZ.out.size))
            obtain ⟨adx, hjx, ex, d0, d1, d2, ftx⟩ := (H.out.next (BL.out.trans (BW1.out.mono BL.out.size))).read i (by omega)
            obtain rfl := Option.some.inj ex
            rw [HX.out] at d0 d1 d2
            have R1' := Lib.hid (R1.next ((Below.refl _ _).alloc (Nat.le_refl _) (.cells #[.string x.k, .int .u64 (x.u : Int), .int .u64 (x.w : Int)] 25)))
            have H1' := Lib.hid (Nat.le_trans B1.size ((Below.refl W1.heap.size W1).alloc (Nat.le_refl _) (.cells #[.string x.k, .int .u64 (x.u : Int), .int .u64 (x.w : Int)] 25)).size)
            clear R1 ftx
            go_wp2_with (at_builtin; refine wpList_appI rfl _ _ rfl rfl R1'.out H1'.out rfl (Its.new W1 x FX.out _) (fun e => absurd e (by simp)) SM2.out ?_)
            intro v2 W2 R2 B2
            replace R2 : Rw Zt.heap.size v2 (s.take p ++ [x]) W2 := by simpa using R2
            have BW2 := Lib.hid ((BW1.out.alloc BW1.out.size _).trans (B2.mono BZ.out.size))
            clear d0 d1 d2
            have ct := Lib.hid (show i ≤ c3 by have := I3.out.cap; rw [hsl.out] at this; exact this)
            have SM3 := Lib.hid (show (s.take p ++ [x]).length + (s.drop p).length ≤ 1000000 by simp only [List.length_append, List.length_take, List.length_drop, List.length_cons, List.length_nil, hsl.out]; omega)
            by_cases hcap : c3 = p
            · have ip : i - p = 0 := by have := ct.out; omega
              have I5 : Hid (Its W2 (some ad3) 0 0 (s.drop p)) := by
                unfold Hid
                rw [List.drop_of_length_le (by rw [hsl.out]; omega)]
                exact Its.zero _ _ _ (by decide)
              have hcapI : (c3 : Int) = (p : Int) := by omega
              go_wp2_with (at_builtin; refine wpList_appI rfl _ _ rfl rfl R2 (Nat.le_trans H1'.out B2.size) rfl I5.out (fun e => absurd e (by simp)) SM3.out ?_)
              intro v3 W3 R3 B3
              have NS : Hid (IsSort (l.take (i + 1)) (s.take p ++ x :: s.drop p)) := by
                unfold Hid
                rw [List.take_succ_eq_append_getElem hj, HX.out]
                exact IS.out.put (fun y hy => HM.out y (List.mem_of_mem_take hy)) WX.out p P1.out DR.out
              have RN : Hid (Rw w.heap.size v3 (s.take p ++ x :: s.drop p) W3) := by
                have q := R3.mono (b' := w.heap.size) (Nat.le_trans BL.out.size BZ.out.size)
                have e : ∀ t u : List It, t = u → Rw w.heap.size v3 t W3 → Rw w.heap.size v3 u W3 := fun t u h k => h ▸ k
                exact e _ _ (by simp) q
              have BN := Lib.hid (BL.out.trans ((BW2.out.trans (B3.mono BZ.out.size)).mono BL.out.size))
              clear R3 R2 B3 B2 B1
              go_wp2_with fail
              go_roundg (X - 1)
              case measure => have := HQ.out; omega
              case rel =>
                go_light
                exact ⟨i + 1, _, by have := HQ.out; omega, by go_num, NS.out, RN.out, BN.out⟩
            · have I5 : Hid (Its W2 (some (ad3.add (p * 3))) (i - p) (c3 - p) (s.drop p)) := by
                have q := I3.out.next BW2.out
                rw [hsl.out] at q
                obtain ⟨g, eg, _, _⟩ := hg3 ad3 rfl
                have top := q.top
                have cp := q.cap
                have r := q.part (g := g) (by rw [eg]) p (i - p) (c3 - p) (by omega) (by omega) (by omega)
                rw [List.take_of_length_le (by rw [List.length_drop, hsl.out]; exact Nat.le_refl _)] at r
                have ea : ad3.add (p * 3) = ⟨g, p * 3, none⟩ := by rw [eg]; unfold Addr.add; split <;> simp_all
                rw [ea]
                exact r
              have hcapI : ¬ (c3 : Int) = (p : Int) := by omega
              have hcapL : (p : Int) < c3 := by have := ct.out; omega
              have hcapN : p < c3 := by have := ct.out; omega
              go_wp2_with (at_builtin; refine wpList_appI rfl _ _ rfl rfl R2 (Nat.le_trans H1'.out B2.size) rfl I5.out (fun e => absurd e (by simp)) SM3.out ?_)
              intro v3 W3 R3 B3
              have NS : Hid (IsSort (l.take (i + 1)) (s.take p ++ x :: s.drop p)) := by
                unfold Hid
                rw [List.take_succ_eq_append_getElem hj, HX.out]
                exact IS.out.put (fun y hy => HM.out y (List.mem_of_mem_take hy)) WX.out p P1.out DR.out
              have RN : Hid (Rw w.heap.size v3 (s.take p ++ x :: s.drop p) W3) := by
                have q := R3.mono (b' := w.heap.size) (Nat.le_trans BL.out.size BZ.out.size)
                have e : ∀ t u : List It, t = u → Rw w.heap.size v3 t W3 → Rw w.heap.size v3 u W3 := fun t u h k => h ▸ k
                exact e _ _ (by simp) q
              have BN := Lib.hid (BL.out.trans ((BW2.out.trans (B3.mono BZ.out.size)).mono BL.out.size))
              clear R3 R2 B3 B2 B1
              go_wp2_with fail
              go_roundg (X - 1)
              case measure => have := HQ.out; omega
              case rel =>
                go_light
                exact ⟨i + 1, _, by have := HQ.out; omega, by go_num, NS.out, RN.out, BN.out⟩
    · obtain rfl : i = n := by omega
      have i1 : ¬ (i : Int) < i := by omega
      have IS2 : Hid (IsSort l s) := by
        have q := IS.out
        rw [List.take_of_length_le (by rw [HL.out]; exact Nat.le_refl _)] at q
        exact q
      clear hq lt
      go_wp2_with fail
      go_ret
      exact ⟨_, rfl, s, IS2.out, R.out, BL.out⟩
end Go.Proofs.Ytnkhgkpijfohkaa
namespace Go.Proofs.Ytnkhgkpijfohkaa
open Go.RowKit
set_option linter.unusedVariables false
set_option linter.unusedSimpArgs false
set_option maxHeartbeats 2000000
set_option maxRecDepth 100000
/-- What is asked of the order that is handed on. -/
abbrev CmpOk : Prop := ∀ x y : It, x.Fit → y.Fit → ∀ W : World, Calls Try.prog 23 #[itv x, itv y] W fun e W' => e = .returned (.int .i64 (cmpI x y)) ∧ Below W.heap.size W W'
/-- k of a stretch are in order. -/
def InsOut (P S Q : List It) (k : Nat) (cur : List It) : Prop := ∃ T, cur = P ++ (T ++ (S.drop k ++ Q)) ∧ IsSort (S.take k) T
/-- One more is on its way. -/
def InsIn (P T : List It) (x : It) (R : List It) (j : Nat) (cur : List It) : Prop := ∃ T1 T2, cur = P ++ (T1 ++ x :: (T2 ++ R)) ∧ T1 ++ T2 = T ∧ P.length + T1.length = j ∧ ∀ y ∈ T2, cmpI x y < 0
theorem InsOut.start (P S Q : List It) : InsOut P S Q 1 (P ++ (S ++ Q)) := ⟨S.take 1, by rw [← List.append_assoc (S.take 1), List.take_append_drop], isSort_of_sorted (sorted_short (by rw [List.length_take]; omega))⟩
theorem InsIn.here {P T R cur : List It} {x : It} {j : Nat} (h : InsIn P T x R j cur) : nth cur j = x := by
  obtain ⟨T1, T2, rfl, _, rfl, _⟩ := h
  have := nth_mid (P ++ T1) (T2 ++ R) x
  rw [List.length_append, List.append_assoc] at this
  exact this
theorem InsIn.step {P T R cur : List It} {x : It} {j j' : Nat} (h : InsIn P T x R j cur) (hj : P.length < j) (e : j = j' + 1) (c : cmpI x (nth cur j') < 0) : InsIn P T x R j' (swp cur j j') := by
  subst e
  obtain ⟨T1, T2, rfl, ht, hl, hc⟩ := h
  have hne : T1 ≠ [] := by rintro rfl; simp at hl; omega
  obtain ⟨T1', t, rfl⟩ : ∃ T1' t, T1 = T1' ++ [t] := ⟨_, _, (List.dropLast_concat_getLast hne).symm⟩
  have hl' : P.length + T1'.length = j' := by simp only [List.length_append, List.length_cons, List.length_nil] at hl; omega
  have e1 : P ++ (T1' ++ [t] ++ x :: (T2 ++ R)) = (P ++ T1') ++ t :: x :: (T2 ++ R) := by simp
  rw [e1] at c ⊢
  have hn := nth_mid (P ++ T1') (x :: (T2 ++ R)) t
  rw [List.length_append, hl'] at hn
  rw [hn] at c
  rw [swp_comm, swp_next (P ++ T1') (T2 ++ R) t x (by rw [List.length_append]; omega) (by rw [List.length_append]; omega)]
  refine ⟨T1', t :: T2, by simp, by rw [← ht]; simp, hl', fun y hy => ?_⟩
  rcases List.mem_cons.1 hy with rfl | hy
  · exact c
  · exact hc y hy
theorem InsIn.stop {P T R cur L : List It} {x : It} {j : Nat} (h : InsIn P T x R j cur) (c : j ≤ P.length ∨ ∃ j', j = j' + 1 ∧ ¬ cmpI x (nth cur j') < 0) (s : IsSort L T) (m : May L) (hx : 0 < x.w) : ∃ T', cur = P ++ (T' ++ R) ∧ IsSort (L ++ [x]) T' := by
  obtain ⟨T1, T2, rfl, rfl, hl, hc⟩ := h
  refine ⟨T1 ++ x :: T2, by simp, ?_⟩
  have h1 : ∀ y ∈ T1, cmpI y x ≤ 0 := by
    rcases c with c | ⟨j', e, c⟩
    · have : T1 = [] := List.eq_nil_of_length_eq_zero (by omega)
      rw [this]; intro y hy; exact absurd hy (by simp)
    · by_cases hne : T1 = []
      · rw [hne]; intro y hy; exact absurd hy (by simp)
      · obtain ⟨T1', t, rfl⟩ : ∃ T1' t, T1 = T1' ++ [t] := ⟨_, _, (List.dropLast_concat_getLast hne).symm⟩
        have hl' : P.length + T1'.length = j' := by simp only [List.length_append, List.length_cons, List.length_nil] at hl; omega
        have e1 : P ++ (T1' ++ [t] ++ x :: (T2 ++ R)) = (P ++ T1') ++ t :: x :: (T2 ++ R) := by simp
        have hn := nth_mid (P ++ T1') (x :: (T2 ++ R)) t
        rw [List.length_append, hl'] at hn
        rw [e1, hn] at c
        have mt : May (T1' ++ [t]) := fun y hy => s.may m y (List.mem_append_left _ hy)
        have q := s.sorted.left.upto mt hx (k := T1'.length) (by simp) (by
          have := nth_mid T1' [] t
          rw [this]; exact cmpI_ge c)
        intro y hy
        exact q y (by rw [List.take_of_length_le (by simp)]; exact hy)
  have := s.put m hx T1.length (by rw [List.take_left]; exact h1) (by rw [List.drop_left]; exact hc)
  rw [List.take_left, List.drop_left] at this
  exact this
end Go.Proofs.Ytnkhgkpijfohkaa
namespace Go.Proofs.Ytnkhgkpijfohkaa
open Go.RowKit
set_option linter.unusedVariables false
set_option linter.unusedSimpArgs false
set_option maxHeartbeats 2000000
set_option maxRecDepth 100000
/-- One item is on its way over a stretch: t of it are passed. -/
def Mv (A B C : List It) (x : It) (t : Nat) : List It := A ++ (B.take t ++ x :: (B.drop t ++ C))
section
variable {A B C : List It} {x : It} {t i j : Nat}
theorem Mv.len (h : t ≤ B.length) : (Mv A B C x t).length = A.length + B.length + 1 + C.length := by
  simp only [Mv, List.length_append, List.length_cons, List.length_take, List.length_drop]; omega
theorem Mv.fin : Mv A B C x B.length = A ++ (B ++ x :: C) := by unfold Mv; rw [List.take_length, List.drop_length]; rfl
theorem Mv.start : Mv A B C x 0 = A ++ x :: (B ++ C) := by simp [Mv]
theorem Mv.up (h : t < B.length) (hi : i = A.length + t) (hj : j = i + 1) : swp (Mv A B C x t) i j = Mv A B C x (t + 1) := by
  have e1 : B.drop t = B[t] :: B.drop (t + 1) := List.drop_eq_getElem_cons h
  have e2 : B.take (t + 1) = B.take t ++ [B[t]] := List.take_succ_eq_append_getElem h
  have e := swp_next (A ++ B.take t) (B.drop (t + 1) ++ C) x B[t] (i := i) (j := j) (by rw [List.length_append, List.length_take]; omega) (by rw [List.length_append, List.length_take]; omega)
  unfold Mv
  rw [e1, e2]
  simpa only [List.append_assoc, List.cons_append, List.nil_append] using e
theorem Mv.down (h : t < B.length) (hi : i = A.length + t + 1) (hj : i = j + 1) : swp (Mv A B C x (t + 1)) i j = Mv A B C x t := by
  have e1 : B.drop t = B[t] :: B.drop (t + 1) := List.drop_eq_getElem_cons h
  have e2 : B.take (t + 1) = B.take t ++ [B[t]] := List.take_succ_eq_append_getElem h
  have e := swp_next (A ++ B.take t) (B.drop (t + 1) ++ C) B[t] x (i := j) (j := i) (by rw [List.length_append, List.length_take]; omega) (by rw [List.length_append, List.length_take]; omega)
  rw [swp_comm]
  unfold Mv
  rw [e1, e2]
  simpa only [List.append_assoc, List.cons_append, List.nil_append] using e
end
/-- Where one item comes among a stretch in order, ahead of those that don't stand ahead of it. -/
theorem one_end {V : List It} {x : It} {k : Nat} (s : Sorted V) (m : May V) (hx : 0 < x.w) (hk : k ≤ V.length) (a : k = 0 ∨ ∃ k', k = k' + 1 ∧ cmpI (nth V k') x < 0) (b : k = V.length ∨ ¬ cmpI (nth V k) x < 0) : IsSort (x :: V) (V.take k ++ x :: V.drop k) := by
  have h1 : ∀ y ∈ V.take k, cmpI y x < 0 := by
    rcases a with rfl | ⟨k', rfl, a⟩
    · intro y hy; exact absurd hy (by simp)
    · exact s.upto_lt m hx (by omega) a
  have h2 : ∀ y ∈ V.drop k, cmpI x y ≤ 0 := by
    by_cases e : k = V.length
    · rw [List.drop_eq_nil_of_le (by omega)]; intro y hy; exact absurd hy (by simp)
    · exact s.from_ m hx (by omega) (cmpI_ge (b.resolve_left e))
  have mx : May [x] := fun y hy => by rw [List.mem_singleton] at hy; exact hy ▸ hx
  have k1 : Keeps (x :: V) (V.take k ++ x :: V.drop k) := by
    have := (Keeps.turn mx (X := [x]) (Y := V.take k) (fun y hy => m y (List.mem_of_mem_take hy)) (fun z hz y hy => by rw [List.mem_singleton] at hz; exact hz ▸ h1 y hy)).app (Keeps.refl (V.drop k))
    have e : [x] ++ V.take k ++ V.drop k = x :: V := by rw [List.append_assoc, List.take_append_drop]; rfl
    rw [e] at this
    simpa using this
  refine k1.sort ((s.take k).mk (List.pairwise_cons.2 ⟨h2, s.drop k⟩) fun y hy z hz => ?_)
  rcases List.mem_cons.1 hz with rfl | hz
  · exact Int.le_of_lt (h1 y hy)
  · have := s; rw [← List.take_append_drop k V] at this
    exact this.cross y hy z hz
/-- .. or behind those that don't stand behind it. -/
theorem last_end {U : List It} {y : It} {k : Nat} (s : Sorted U) (m : May U) (hy : 0 < y.w) (hk : k ≤ U.length) (a : k = 0 ∨ ∃ k', k = k' + 1 ∧ ¬ cmpI y (nth U k') < 0) (b : k = U.length ∨ cmpI y (nth U k) < 0) : IsSort (U ++ [y]) (U.take k ++ y :: U.drop k) := by
  refine (isSort_of_sorted s).put m hy k ?_ ?_
  · rcases a with rfl | ⟨k', rfl, a⟩
    · intro y hy; exact absurd hy (by simp)
    · exact s.upto m hy (by omega) (cmpI_ge a)
  · by_cases e : k = U.length
    · rw [List.drop_eq_nil_of_le (by omega)]; intro y hy; exact absurd hy (by simp)
    · exact s.from_lt m hy (by omega) (b.resolve_left e)
/-- How far the search is: from i to j. -/
def Se1 (cur : List It) (x : It) (m b i j : Nat) : Prop := (i = m ∨ ∃ i', i = i' + 1 ∧ cmpI (nth cur i') x < 0) ∧ (j = b ∨ ¬ cmpI (nth cur j) x < 0)
end Go.Proofs.Ytnkhgkpijfohkaa
namespace Go.Proofs.Ytnkhgkpijfohkaa
open Go.RowKit
set_option linter.unusedVariables false
set_option linter.unusedSimpArgs false
set_option maxHeartbeats 2000000
set_option maxRecDepth 100000
/-- How far the search is: from i to j. -/
def Se2 (cur : List It) (y : It) (a m i j : Nat) : Prop := (i = a ∨ ∃ i', i = i' + 1 ∧ ¬ cmpI y (nth cur i') < 0) ∧ (j = m ∨ cmpI y (nth cur j) < 0)
end Go.Proofs.Ytnkhgkpijfohkaa
namespace Go.Proofs.Ytnkhgkpijfohkaa
open Go.RowKit
set_option linter.unusedVariables false
set_option linter.unusedSimpArgs false
set_option maxHeartbeats 4000000
set_option maxRecDepth 100000
/-- How far the search is. -/
def Se3 (cur : List It) (p s0 r0 st r : Nat) : Prop := (st = s0 ∨ Low cur p (st - 1)) ∧ (r = r0 ∨ ¬ Low cur p r)
end Go.Proofs.Ytnkhgkpijfohkaa
namespace Go.Proofs.Ytnkhgkpijfohkaa
open Go.RowKit
set_option linter.unusedVariables false
set_option linter.unusedSimpArgs false
set_option maxHeartbeats 4000000
set_option maxRecDepth 100000
/-- In order, stretch by stretch, z each. -/
def Bl (z : Nat) (s : List It) : Prop := ∀ k, Sorted ((s.drop (k * z)).take z)
theorem Bl.nil (z : Nat) : Bl z [] := fun k => by rw [List.drop_nil, List.take_nil]; exact .nil
theorem Bl.snoc {D S : List It} {t z : Nat} (h : Bl z D) (hd : D.length = t * z) (hs : Sorted S) (hl : S.length ≤ z) : Bl z (D ++ S) := by
  intro k
  rcases Nat.lt_trichotomy k t with lt | rfl | gt
  · have h1 : k * z + z ≤ t * z := by rw [← Nat.succ_mul]; exact Nat.mul_le_mul_right z lt
    rw [List.drop_append_of_le_length (by omega), List.take_append_of_le_length (by rw [List.length_drop]; omega)]
    exact h k
  · rw [← hd, List.drop_left, List.take_of_length_le hl]
    exact hs
  · have h1 : t * z + z ≤ k * z := by rw [← Nat.succ_mul]; exact Nat.mul_le_mul_right z gt
    rw [List.drop_eq_nil_of_le (by rw [List.length_append]; omega), List.take_nil]
    exact .nil
theorem Bl.head {U R : List It} {z : Nat} (h : Bl z (U ++ R)) (hu : U.length = z) : Sorted U ∧ Bl z R := by
  refine ⟨?_, fun k => ?_⟩
  · have := h 0
    rw [Nat.zero_mul, List.drop_zero, ← hu, List.take_left] at this
    exact this
  · have := h (k + 1)
    rw [Nat.succ_mul, Nat.add_comm, ← List.drop_drop, ← hu, List.drop_left, hu] at this
    exact this
theorem Bl.short {R : List It} {z : Nat} (h : Bl z R) (hr : R.length ≤ z) : Sorted R := by
  have := h 0
  rw [Nat.zero_mul, List.drop_zero, List.take_of_length_le hr] at this
  exact this
theorem Keeps.put {l D S S' Q : List It} (h : Keeps l (D ++ (S ++ Q))) (k : IsSort S S') : Keeps l (D ++ (S' ++ Q)) := h.trans ((Keeps.refl D).app (k.keeps.app (Keeps.refl Q)))
end Go.Proofs.Ytnkhgkpijfohkaa
namespace Go.Proofs.Ytnkhgkpijfohkaa
open Go.RowKit
set_option linter.unusedVariables false
set_option linter.unusedSimpArgs false

theorem Fs.alloc {w W : World} {cs : List (Nat × Value × Value)} {l : List (Option Addr × Nat × Nat × List Nat)} (s : Fs w cs l W) (o : Obj) : Fs w cs l (W.alloc o) := s.next ((Below.refl _ _).alloc (Nat.le_refl _) o)
theorem newc {Y z : World} {a b : Value} {t : TypeId} (h : Below (Y.alloc (.cells #[a, b] t)).heap.size (Y.alloc (.cells #[a, b] t)) z) : z.cell? ⟨Y.heap.size, 0, none⟩ = some a ∧ z.cell? ⟨Y.heap.size, 1, none⟩ = some b ∧ z.frozen? ⟨Y.heap.size, 0, none⟩ = false ∧ z.frozen? ⟨Y.heap.size, 1, none⟩ = false ∧ Y.heap.size < z.heap.size := by
  have c0 : (Y.alloc (.cells #[a, b] t)).cell? ⟨Y.heap.size, 0, none⟩ = some a := by simp [go_sem]
  have c1 : (Y.alloc (.cells #[a, b] t)).cell? ⟨Y.heap.size, 1, none⟩ = some b := by simp [go_sem]
  have q := h.size
  rw [World.size_alloc] at q
  exact ⟨keep_cell h c0, keep_cell h c1, keep_melt h c0 (by simp [go_sem]), keep_melt h c1 (by simp [go_sem]), by omega⟩
theorem newcd {Y z : World} {a b : Value} {t : TypeId} (h : Below (Y.alloc (.cells #[a, b] t)).drew.heap.size (Y.alloc (.cells #[a, b] t)).drew z) : z.cell? ⟨Y.heap.size, 0, none⟩ = some a ∧ z.cell? ⟨Y.heap.size, 1, none⟩ = some b ∧ z.frozen? ⟨Y.heap.size, 0, none⟩ = false ∧ z.frozen? ⟨Y.heap.size, 1, none⟩ = false ∧ Y.heap.size < z.heap.size :=
  newc (below_step (Below.refl _ _).drew h)
theorem lim_one (w : World) (x : Nat) (hx : x < 4294967296) (h0 : x ≠ 0) : Lim (w.alloc (.cells #[.int .u32 (x : Int)] 79)) (some ⟨w.heap.size, 0, none⟩) 1 1 (limbs x) := by
  have R := (Row.new_of w [x] #[.int .u32 (x : Int)] (.cons hx .nil) (by simp)).lim (o := 0) (n := 1) (c := 1) (by simp) (Nat.le_refl _) (by omega)
  rw [List.drop_zero, List.take_of_length_le (by simp)] at R
  rw [limbs_one hx h0]; exact R
theorem lt64 {x : Nat} (h : x ≤ 1000) : ln x ≤ 64 := ln_tiny (by omega)
theorem f12 : Fq 1 2 := ⟨lt64 (by decide), lt64 (by decide), by decide, by decide⟩
theorem f16 : Fq 1 6 := ⟨lt64 (by decide), lt64 (by decide), by decide, by decide⟩
theorem f01 : Fq 0 1 := ⟨lt64 (by decide), lt64 (by decide), by decide, by decide⟩
theorem f23 : Fq 2 3 := ⟨lt64 (by decide), lt64 (by decide), by decide, by decide⟩
theorem red24 : red 2 4 = (1, 2, 0) := by decide
theorem red16 : red 1 6 = (1, 6, 0) := by decide
theorem add_t : addR 1 2 1 6 = (2, 3, 0) := by
  rw [addR_yes (lt64 (by decide)) (lt64 (by decide)) (lt64 (by decide)) (lt64 (by decide))]; decide
theorem sub_t : subR 1 6 1 2 = (0, 0, 1) := subR_low (lt64 (by decide)) (lt64 (by decide)) (lt64 (by decide)) (by decide)
theorem cmp_t : cmpN 1 6 1 2 = -1 := by rw [cmpN_yes (lt64 (by decide)) (lt64 (by decide))]; exact sgn_lt (by decide)
theorem cmp_e : cmpE 1 6 1 2 = 0 := cmpE_yes (lt64 (by decide)) (lt64 (by decide))
theorem dt (x : Nat) (h : x < 10) : dtext x = [48 + UInt8.ofNat x] := by
  rcases (by omega : x = 0 ∨ x = 1 ∨ x = 2 ∨ x = 3 ∨ x = 4 ∨ x = 5 ∨ x = 6 ∨ x = 7 ∨ x = 8 ∨ x = 9) with rfl | rfl | rfl | rfl | rfl | rfl | rfl | rfl | rfl | rfl
  · rw [dtext_zero]; rfl
  all_goals (rw [dtext_pos (by decide), tens_pos (by decide), tens_zero]; rfl)
theorem text_t : dtext 2 ++ 47 :: dtext 3 = [50, 47, 51] := by rw [dt 2 (by decide), dt 3 (by decide)]; rfl
theorem text_z : dtext 0 ++ 47 :: dtext 1 = [48, 47, 49] := by rw [dt 0 (by decide), dt 1 (by decide)]; rfl
theorem nofr : ¬ Fr (limbs 2) (limbs 4) := fun h => by
  have := h.2.2.2
  rw [val_limbs, val_limbs] at this
  exact absurd this (by decide)
end Go.Proofs.Ytnkhgkpijfohkaa
namespace Go.Proofs.Ytnkhgkpijfohkaa
open Go.RowKit
set_option linter.unusedVariables false
set_option linter.unusedSimpArgs false

end Go.Proofs.Ytnkhgkpijfohkaa
namespace Go.Proofs.Ytnkhgkpijfohkaa
/-- One more than the greatest half. -/
@[irreducible] def H16 : Nat := 65536
theorem H16_eq : H16 = 65536 := by unfold H16; rfl
theorem H16_pos : 0 < H16 := by rw [H16_eq]; decide
theorem H16_sq : H16 ^ 2 = B := by rw [H16_eq, B_eq]
theorem H16_pow (k : Nat) : H16 ^ (2 * k) = B ^ k := by rw [Nat.pow_mul, H16_sq]
/-- The number of halves, the lowest first. -/
def hval : List Nat → Nat
  | [] => 0
  | x :: r => x + H16 * hval r
theorem hval_nil : hval [] = 0 := rfl
theorem hval_cons (x : Nat) (r : List Nat) : hval (x :: r) = x + H16 * hval r := rfl
/-- Halves are below H16. -/
def Ld (xs : List Nat) : Prop := ∀ x ∈ xs, x < 65536
theorem Ld.nil : Ld [] := fun x hx => by cases hx
theorem Ld.cons {x : Nat} {r : List Nat} (h : x < 65536) (k : Ld r) : Ld (x :: r) := fun y hy => by
  rcases List.mem_cons.1 hy with rfl | hy
  · exact h
  · exact k y hy
theorem Ld.append {xs ys : List Nat} (h : Ld xs) (k : Ld ys) : Ld (xs ++ ys) := fun y hy => by
  rcases List.mem_append.1 hy with hy | hy
  · exact h y hy
  · exact k y hy
theorem Ld.at_ {xs : List Nat} (h : Ld xs) (k : Nat) (hk : k < xs.length) : xs[k] < 65536 := h _ (List.getElem_mem hk)
theorem Ld.head {x : Nat} {r : List Nat} (h : Ld (x :: r)) : x < 65536 := h x (by simp)
theorem Ld.tail {x : Nat} {r : List Nat} (h : Ld (x :: r)) : Ld r := fun y hy => h y (by simp [hy])
theorem Ld.drop {xs : List Nat} (h : Ld xs) (k : Nat) : Ld (xs.drop k) := fun y hy => h y (List.mem_of_mem_drop hy)
theorem ld_zeros (n : Nat) : Ld (List.replicate n 0) := fun y hy => by rw [(List.mem_replicate.1 hy).2]; decide
theorem ld_set {xs : List Nat} (h : Ld xs) (i v : Nat) (hv : v < 65536) : Ld (xs.set i v) := fun y hy => by
  rcases List.mem_or_eq_of_mem_set hy with k | k
  · exact h y k
  · rw [k]; exact hv
theorem hval_append (xs ys : List Nat) : hval (xs ++ ys) = hval xs + H16 ^ xs.length * hval ys := by
  induction xs with
  | nil => simp [hval_nil]
  | cons x r ih => rw [List.cons_append, hval_cons, hval_cons, ih, List.length_cons, Nat.pow_succ, Nat.mul_add, Nat.add_assoc, Nat.mul_comm (H16 ^ r.length) H16, Nat.mul_assoc]
theorem hval_snoc (xs : List Nat) (y : Nat) : hval (xs ++ [y]) = hval xs + H16 ^ xs.length * y := by
  rw [hval_append]; simp [hval_cons, hval_nil]
theorem hval_take_succ (xs : List Nat) (k : Nat) (h : k < xs.length) : hval (xs.take (k + 1)) = hval (xs.take k) + H16 ^ k * xs[k] := by
  rw [List.take_succ_eq_append_getElem h, hval_snoc, List.length_take, Nat.min_eq_left (by omega)]
theorem hval_zeros (n : Nat) : hval (List.replicate n 0) = 0 := by
  induction n with
  | zero => rfl
  | succ n ih => rw [List.replicate_succ, hval_cons, ih, Nat.mul_zero]
theorem hval_lt {xs : List Nat} (h : Ld xs) : hval xs < H16 ^ xs.length := by
  induction xs with
  | nil => simp [hval_nil]
  | cons x r ih =>
    have i := ih h.tail
    have e : H16 ^ (x :: r).length = H16 * H16 ^ r.length := by rw [List.length_cons, Nat.pow_succ, Nat.mul_comm]
    have hx := h.head
    rw [← H16_eq] at hx
    rw [hval_cons, e]
    have : H16 * (hval r + 1) ≤ H16 * H16 ^ r.length := Nat.mul_le_mul_left _ i
    rw [Nat.mul_add] at this
    omega
theorem hval_set (ps : List Nat) (k v : Nat) (h : k < ps.length) : hval (ps.set k v) + H16 ^ k * ps[k] = hval ps + H16 ^ k * v := by
  induction ps generalizing k with
  | nil => simp at h
  | cons x r ih =>
    cases k with
    | zero => simp [hval_cons]; omega
    | succ k =>
      have := ih k (by simpa using h)
      simp only [List.set_cons_succ, hval_cons, List.getElem_cons_succ, Nat.pow_succ]
      have e : H16 * (hval (r.set k v) + H16 ^ k * r[k]'(by simpa using h)) = H16 * (hval r + H16 ^ k * v) := by rw [this]
      rw [Nat.mul_add, Nat.mul_add, ← Nat.mul_assoc, ← Nat.mul_assoc, Nat.mul_comm H16 (H16 ^ k)] at e
      omega

/-- The limb that is there, or nought. -/
def lat (xs : List Nat) (k : Nat) : Nat := xs[k]?.getD 0
theorem lat_in {xs : List Nat} {k : Nat} (h : k < xs.length) : lat xs k = xs[k] := by unfold lat; rw [List.getElem?_eq_getElem h]; rfl
theorem lat_out {xs : List Nat} {k : Nat} (h : ¬ k < xs.length) : lat xs k = 0 := by unfold lat; rw [List.getElem?_eq_none (by omega)]; rfl
theorem lat_lt {xs : List Nat} (h : Lo xs) (k : Nat) : lat xs k < 4294967296 := by
  by_cases hk : k < xs.length
  · rw [lat_in hk]; exact h.at_ k hk
  · rw [lat_out hk]; decide
theorem val_take_lat (xs : List Nat) (k : Nat) : val (xs.take (k + 1)) = val (xs.take k) + B ^ k * lat xs k := by
  by_cases hk : k < xs.length
  · rw [lat_in hk]; exact val_take_succ xs k hk
  · rw [lat_out hk, List.take_of_length_le (by omega), List.take_of_length_le (by omega), Nat.mul_zero, Nat.add_zero]
/-- Half i. -/
def hf (xs : List Nat) (i : Nat) : Nat := if i % 2 = 0 then lat xs (i / 2) % 65536 else lat xs (i / 2) / 65536
theorem hf_even (xs : List Nat) (i : Nat) (h : i % 2 = 0) : hf xs i = lat xs (i / 2) % 65536 := by unfold hf; rw [if_pos h]
theorem hf_odd (xs : List Nat) (i : Nat) (h : ¬ i % 2 = 0) : hf xs i = lat xs (i / 2) / 65536 := by unfold hf; rw [if_neg h]
theorem hf_lt {xs : List Nat} (h : Lo xs) (i : Nat) : hf xs i < 65536 := by
  have := lat_lt h (i / 2)
  unfold hf
  split <;> omega
/-- So many halves. -/
def halves (xs : List Nat) : Nat → List Nat
  | 0 => []
  | n + 1 => halves xs n ++ [hf xs n]
theorem halves_succ (xs : List Nat) (n : Nat) : halves xs (n + 1) = halves xs n ++ [hf xs n] := rfl
theorem halves_len (xs : List Nat) (n : Nat) : (halves xs n).length = n := by
  induction n with
  | zero => rfl
  | succ n ih => rw [halves_succ, List.length_append, ih]; rfl
theorem ld_halves {xs : List Nat} (h : Lo xs) (n : Nat) : Ld (halves xs n) := by
  induction n with
  | zero => exact .nil
  | succ n ih => exact ih.append (.cons (hf_lt h n) .nil)
theorem two_halves (P x : Nat) : P * (x % 65536) + P * 65536 * (x / 65536) = P * x := by
  have e : x = x % 65536 + 65536 * (x / 65536) := by omega
  conv => rhs; rw [e, Nat.mul_add, ← Nat.mul_assoc]
theorem halves_val (xs : List Nat) (k : Nat) : hval (halves xs (2 * k)) = val (xs.take k) := by
  induction k with
  | zero => rfl
  | succ k ih =>
    have e : 2 * (k + 1) = 2 * k + 1 + 1 := by omega
    rw [e, halves_succ, halves_succ, hval_snoc, hval_snoc, ih, List.length_append, halves_len, List.length_singleton, hf_even _ _ (by omega), hf_odd _ _ (by omega), show 2 * k / 2 = k by omega, show (2 * k + 1) / 2 = k by omega, val_take_lat, Nat.pow_succ, H16_pow, H16_eq, Nat.add_assoc, two_halves]
theorem halves_whole {xs : List Nat} {k : Nat} (h : xs.length ≤ k) : hval (halves xs (2 * k)) = val xs := by rw [halves_val, List.take_of_length_le h]
/-- Two halves are a limb. -/
theorem hval_two (hs : List Nat) (k : Nat) (h : 2 * k + 1 < hs.length) : hval (hs.take (2 * (k + 1))) = hval (hs.take (2 * k)) + B ^ k * (hs[2 * k] + 65536 * hs[2 * k + 1]) := by
  have e : 2 * (k + 1) = 2 * k + 1 + 1 := by omega
  rw [e, hval_take_succ hs (2 * k + 1) h, hval_take_succ hs (2 * k) (by omega), Nat.pow_succ, H16_pow, H16_eq, Nat.mul_add, Nat.mul_assoc, Nat.add_assoc]
/-- A step of a sum. -/
theorem had_step {P s x y k v c : Nat} (h : v + P * k = s) (e : x + y + k = c) : v + P * (c % 65536) + P * 65536 * (c / 65536) = s + P * x + P * y := by
  have := two_halves P c
  rw [Nat.add_assoc, this, ← e, ← h, Nat.mul_add, Nat.mul_add]
  omega
theorem hsb_limb (x y k : Nat) (hx : x < 65536) (hy : y < 65536) (hk : k ≤ 1) : x + 65536 * (1 - (65536 + x - y - k) / 65536) = (65536 + x - y - k) % 65536 + y + k := by
  omega
theorem hsb_step {P s t v x y k b d : Nat} (h : s + P * k = v + t) (e : x + 65536 * b = d + y + k) : s + P * x + P * 65536 * b = v + P * d + (t + P * y) := by
  have : P * x + P * 65536 * b = P * d + P * y + P * k := by
    rw [Nat.mul_assoc, ← Nat.mul_add, e, Nat.mul_add, Nat.mul_add]
  omega
theorem hpr_step {P V S p x y k T v : Nat} (h : V + P * k = S) (e : v + P * p = V + P * (T % 65536)) (ht : T = p + x * y + k) : v + P * 65536 * (T / 65536) = S + P * (x * y) := by
  have e3 := two_halves P T
  have e4 : P * T = P * p + P * (x * y) + P * k := by rw [ht, Nat.mul_add, Nat.mul_add]
  omega
end Go.Proofs.Ytnkhgkpijfohkaa
namespace Go.Proofs.Ytnkhgkpijfohkaa
open Go.RowKit
set_option linter.unusedVariables false
set_option linter.unusedSimpArgs false

/-- A half. -/
abbrev hv (x : Nat) : Value := .int .u64 (x : Int)
theorem info_u64 : (Try.prog.info? 23).map (fun i => (i.zero, i.size, i.bytes)) = some (some (.int .u64 0), 1, 8) := by kernel_rfl
/-- Block g begins with these halves. -/
structure Hrow (w : World) (g : Nat) (hs : List Nat) (ys : List Value) : Prop where
  blk : w.heap[g]? = some (.cells (hs.map hv ++ ys).toArray 23 (0, 0))
section
variable {w w' : World} {g : Nat} {hs : List Nat} {ys : List Value}
theorem Hrow.lt (h : Hrow w g hs ys) : g < w.heap.size := (Array.getElem?_eq_some_iff.1 h.blk).1
theorem Hrow.cell (h : Hrow w g hs ys) (i : Nat) (hi : i < hs.length) : w.cell? ⟨g, i, none⟩ = some (hv hs[i]) := by
  have := h.blk
  simp [World.cell?, this, List.getElem?_append_left, hi]
theorem Hrow.cell' (h : Hrow w g hs ys) {i x : Nat} (hi : hs[i]? = some x) : w.cell? ⟨g, i, none⟩ = some (hv x) := by
  obtain ⟨a, b⟩ := List.getElem?_eq_some_iff.1 hi
  rw [h.cell i a, b]
theorem Hrow.melt (h : Hrow w g hs ys) (i : Nat) : w.frozen? ⟨g, i, none⟩ = false := by
  have := h.blk
  simp [World.frozen?, this]
theorem Hrow.set_ (h : Hrow w g hs ys) (i : Nat) (hi : i < hs.length) (v : Nat) : Hrow (w.setCell ⟨g, i, none⟩ (hv v)) g (hs.set i v) ys := by
  refine ⟨?_⟩
  have := h.blk
  simp [World.setCell, Array.getElem?_modify, this]
  rw [List.set_append_left _ _ (by simpa using hi)]
theorem Hrow.drew (h : Hrow w g hs ys) : Hrow w.drew g hs ys := ⟨h.blk⟩
theorem Hrow.next (h : Hrow w g hs ys) (hb : Below w.heap.size w w') : Hrow w' g hs ys := ⟨(hb.block g h.lt).trans h.blk⟩
theorem Hrow.turn (h : Hrow w g hs ys) {g' : Nat} (t : Turn w w' g') (hne : g ≠ g') : Hrow w' g hs ys := ⟨(t.block _ hne).trans h.blk⟩
end
/-- The slice at A of length n reads as the halves hs. -/
structure Hl (w : World) (A : Option Addr) (n : Nat) (hs : List Nat) : Prop where
  len : hs.length = n
  at_ : ∀ j (h : j < hs.length), ∃ ad, A = some ad ∧ w.cell? (ad.add j) = some (hv hs[j])
theorem Hrow.hl {w : World} {g n : Nat} {hs : List Nat} {ys : List Value} (h : Hrow w g hs ys) (hn : hs.length = n) : Hl w (some ⟨g, 0, none⟩) n hs :=
  ⟨hn, fun j hj => ⟨_, rfl, by rw [add_lit, Nat.zero_add]; exact h.cell j hj⟩⟩
theorem own_hrow {w : World} {base n : Nat} {v : Value} {hs : List Nat} (h : w.ownsRow base 23 1 v n (hs.map hv)) (hn : 0 < n) : ∃ g c ys, v = .slice (some ⟨g, 0, none⟩) n c ∧ base ≤ g ∧ n ≤ c ∧ c ≤ maxLen ∧ hs.length = n ∧ Hrow w g hs ys := by
  have hl : hs.length = n := by have := h.1; simpa using this
  rcases h.2 with ⟨rfl, rfl⟩ | ⟨g, cap, cur, rfl, h0, hb, h1, h2, h3, h4⟩
  · omega
  · refine ⟨g, cap, cur.toList.drop n, rfl, h0, h1, h2, hl, ⟨?_⟩⟩
    rw [hb]
    have : cur = (hs.map hv ++ cur.toList.drop n).toArray := by
      apply Array.ext'
      rw [Nat.mul_one] at h4
      rw [← h4]
      simp
    rw [← this]
theorem own_base {w : World} {base n : Nat} {e : TypeId} {v : Value} {xs : List Value} (h : w.ownsRow base e 1 v n xs) : ∀ k, v.ownBlock = some k → base ≤ k := by
  intro k hk
  rcases h.2 with ⟨rfl, _⟩ | ⟨g, cap, cur, rfl, h0, _⟩
  · simp [Value.ownBlock] at hk
  · simp [Value.ownBlock] at hk
    omega

/-- What is in the loop of Half. -/
structure Hlf (w : World) (xs : List Nat) (i : Nat) (v : Value) (wr : World) : Prop where
  own : wr.ownsRow w.heap.size 23 1 v i ((halves xs i).map hv)
  bl : Below w.heap.size w wr
theorem Hlf.step {w : World} {xs : List Nat} {i : Nat} {v v2 : Value} {wr w2 : World} {o : Obj} (h : Hlf w xs i v wr) (hown : w2.ownsRow w.heap.size 23 1 v2 (i + 1) ((halves xs i).map hv ++ [hv (hf xs i)])) (hg : (wr.alloc o).grownBy w2 v.ownBlock) : Hlf w xs (i + 1) v2 w2 := by
  refine ⟨?_, ?_⟩
  · rw [halves_succ]; simpa using hown
  · exact (h.bl.alloc h.bl.size o).grown hg (by have := h.bl.size; simp; omega) (own_base h.own)
/-- What Half leaves. -/
def RetH (w : World) (xs : List Nat) (n : Nat) (e : Ending) (w' : World) : Prop := ∃ v, e = .returned v ∧ w'.ownsRow w.heap.size 23 1 v n ((halves xs n).map hv) ∧ Below w.heap.size w w'
theorem half_cast (i : Nat) : (i : Int).tdiv 2 = ((i / 2 : Nat) : Int) := (Int.ofNat_tdiv i 2).symm
theorem rem_cast (i : Nat) : (i : Int).tmod 2 = ((i % 2 : Nat) : Int) := (Int.ofNat_tmod i 2).symm

/-- What is in the first loop of Whole. -/
structure Whl (w : World) (hs : List Nat) (k : Nat) (v : Value) (wr : World) : Prop where
  ps : ∃ ps, ps.length = k ∧ Lo ps ∧ val ps = hval (hs.take (2 * k)) ∧ wr.ownsRow w.heap.size 79 1 v k (ps.map lv)
  bl : Below w.heap.size w wr
theorem Whl.step {w : World} {hs : List Nat} {k : Nat} {v v2 : Value} {wr w2 : World} {o : Obj} {ps : List Nat} (pl : ps.length = k) (plo : Lo ps) (pv : val ps = hval (hs.take (2 * k))) (po : wr.ownsRow w.heap.size 79 1 v k (ps.map lv)) (bl : Below w.heap.size w wr)
    (ld : Ld hs) (hk : 2 * k + 1 < hs.length) (hown : w2.ownsRow w.heap.size 79 1 v2 (k + 1) (ps.map lv ++ [lv (hs[2 * k] + 65536 * hs[2 * k + 1])])) (hg : (wr.alloc o).grownBy w2 v.ownBlock) : Whl w hs (k + 1) v2 w2 := by
  have b1 := ld.at_ (2 * k) (by omega)
  have b2 := ld.at_ (2 * k + 1) hk
  refine ⟨⟨ps ++ [hs[2 * k] + 65536 * hs[2 * k + 1]], by simp [pl], plo.append (.cons (by omega) .nil), ?_, by simpa using hown⟩, ?_⟩
  · rw [val_snoc, pl, pv, hval_two hs k hk]
  · exact (bl.alloc bl.size o).grown hg (by have := bl.size; simp; omega) (own_base po)

end Go.Proofs.Ytnkhgkpijfohkaa
namespace Go.Proofs.Ytnkhgkpijfohkaa
/-- Limbs whose number needs them all are those of their number. -/
theorem limbs_full {zs : List Nat} (lo : Lo zs) (h : zs = [] ∨ B ^ (zs.length - 1) ≤ val zs) : limbs (val zs) = zs := by
  refine limbs_val lo fun hn z => ?_
  rcases h with h | h
  · exact hn h
  · have e := List.dropLast_concat_getLast hn
    rw [z] at e
    have l := val_lt (xs := zs.dropLast) (fun y hy => lo y (List.dropLast_subset _ hy))
    rw [← e, val_snoc, Nat.mul_zero, Nat.add_zero, List.length_append, List.length_dropLast, List.length_singleton, Nat.add_sub_cancel] at h
    rw [List.length_dropLast] at l
    omega
theorem or_bit (x k : Nat) (hk : k ≤ 1) : bits BinOp.or IntKind.u32 (((x * 2 % 4294967296 : Nat)) : Int) (k : Int) = ((x * 2 % 4294967296 + k : Nat) : Int) := by
  have e := or_low x k 1 (by decide) (by omega)
  rw [Nat.pow_one] at e
  rw [u32_or_nat _ _ (Nat.mod_lt _ (by decide)) (by omega), Nat.or_comm, e, Nat.add_comm]
theorem or_top (x y : Nat) (hx : x < 4294967296) : bits BinOp.or IntKind.u32 (((x / 2 : Nat)) : Int) (((y * 2147483648 % 4294967296 : Nat)) : Int) = ((x / 2 + y % 2 * 2147483648 : Nat) : Int) := by
  have e := or_low y (x / 2) 31 (by decide) (by omega)
  rw [show (2 : Nat) ^ 31 = 2147483648 from rfl] at e
  rw [u32_or_nat _ _ (by omega) (Nat.mod_lt _ (by decide)), e]
  exact congrArg Nat.cast (by omega)
/-- A step of twice. -/
theorem tw_step {P s v x k b : Nat} (h : v + P * k = 2 * s + b) : v + P * (x * 2 % 4294967296 + k) + P * 4294967296 * (x / 2147483648) = 2 * (s + P * x) + b := by
  have e : x * 2 % 4294967296 + 4294967296 * (x / 2147483648) = 2 * x := by omega
  have : P * (x * 2 % 4294967296) + P * 4294967296 * (x / 2147483648) = 2 * (P * x) := by
    rw [Nat.mul_assoc, ← Nat.mul_add, e, Nat.mul_left_comm]
  rw [Nat.mul_add, Nat.mul_add]
  omega
/-- A step of half. -/
theorem hf_step (x V : Nat) : (x + 4294967296 * V) / 2 = x / 2 + V % 2 * 2147483648 + 4294967296 * (V / 2) := by omega
theorem val_mod_two (xs : List Nat) : val xs % 2 = lat xs 0 % 2 := by
  cases xs with
  | nil => rfl
  | cons x r =>
    rw [val_cons, B_eq]
    show _ = x % 2
    omega
theorem bit_down (a p : Nat) : a / 2 ^ p = 2 * (a / 2 ^ (p + 1)) + a / 2 ^ p % 2 := by
  rw [Nat.pow_succ, ← Nat.div_div_eq_div_mul]; omega
/-- A step of a division, bit by bit. -/
theorem dv_step {b q r s k : Nat} (hs : s = b * q + r) (hr : r < b) : (b ≤ 2 * r + k → k ≤ 1 → (2 * s + k) / b = 2 * q + 1 ∧ (2 * s + k) % b = 2 * r + k - b) ∧ (¬ b ≤ 2 * r + k → (2 * s + k) / b = 2 * q + 0 ∧ (2 * s + k) % b = 2 * r + k) := by
  have hb : 0 < b := by omega
  constructor
  · intro h hk
    have e : 2 * s + k = (2 * r + k - b) + b * (2 * q + 1) := by
      rw [hs, Nat.mul_add, Nat.mul_add, Nat.mul_one, Nat.mul_left_comm]; omega
    rw [e, Nat.add_mul_div_left _ _ hb, Nat.add_mul_mod_self_left, Nat.div_eq_of_lt (by omega), Nat.mod_eq_of_lt (by omega)]
    exact ⟨by omega, rfl⟩
  · intro h
    have e : 2 * s + k = (2 * r + k) + b * (2 * q) := by
      rw [hs, Nat.mul_add, Nat.mul_left_comm]; omega
    rw [e, Nat.add_mul_div_left _ _ hb, Nat.add_mul_mod_self_left, Nat.div_eq_of_lt (by omega), Nat.mod_eq_of_lt (by omega)]
    exact ⟨by omega, rfl⟩
/-- Steps of gcd. -/
theorem gcd_both (a b : Nat) (ha : a % 2 = 0) (hb : b % 2 = 0) : Nat.gcd a b = 2 * Nat.gcd (a / 2) (b / 2) := by
  rw [← Nat.gcd_mul_left, show 2 * (a / 2) = a by omega, show 2 * (b / 2) = b by omega]
theorem gcd_left (a b : Nat) (ha : a % 2 = 0) (hb : b % 2 = 1) : Nat.gcd (a / 2) b = Nat.gcd a b := by
  have c : Nat.Coprime 2 b := by
    rw [Nat.coprime_iff_gcd_eq_one, Nat.gcd_rec, hb]; decide
  have := Nat.Coprime.gcd_mul_left_cancel (a / 2) c
  rw [show 2 * (a / 2) = a by omega] at this
  exact this.symm
theorem gcd_right (a b : Nat) (ha : a % 2 = 1) (hb : b % 2 = 0) : Nat.gcd a (b / 2) = Nat.gcd a b := by
  rw [Nat.gcd_comm a, Nat.gcd_comm a, gcd_left b a hb ha]
theorem gcd_less (a b : Nat) (h : b ≤ a) : Nat.gcd (a - b) b = Nat.gcd a b := Nat.gcd_sub_self_left h
end Go.Proofs.Ytnkhgkpijfohkaa
namespace Go.Proofs.Ytnkhgkpijfohkaa
open Go.RowKit
set_option linter.unusedVariables false
set_option linter.unusedSimpArgs false

/-- What is in the loop of twice. -/
structure Tw (w : World) (xs : List Nat) (b i k : Nat) (v : Value) (wr : World) : Prop where
  ps : ∃ ps, ps.length = i ∧ Lo ps ∧ val ps + B ^ i * k = 2 * val (xs.take i) + b ∧ wr.ownsRow w.heap.size 79 1 v i (ps.map lv)
  k1 : k ≤ 1
  bl : Below w.heap.size w wr
/-- What is in the first loop of half. -/
structure Hfl (w : World) (xs : List Nat) (i : Nat) (v : Value) (wr : World) : Prop where
  ps : ∃ ps, ps.length = i ∧ Lo ps ∧ val xs / 2 = val ps + B ^ i * (val (xs.drop i) / 2) ∧ wr.ownsRow w.heap.size 79 1 v i (ps.map lv)
  bl : Below w.heap.size w wr
theorem hf_next {xs ps : List Nat} {i : Nat} (hi : i < xs.length) (e : val xs / 2 = val ps + B ^ i * (val (xs.drop i) / 2)) (pl : ps.length = i) : val xs / 2 = val (ps ++ [xs[i] / 2 + val (xs.drop (i + 1)) % 2 * 2147483648]) + B ^ (i + 1) * (val (xs.drop (i + 1)) / 2) := by
  rw [val_snoc, pl, e, val_drop xs i hi, B_eq, hf_step, Nat.pow_succ, Nat.mul_add (4294967296 ^ i) (xs[i] / 2 + val (xs.drop (i + 1)) % 2 * 2147483648), Nat.mul_assoc, Nat.add_assoc]
theorem drop_mod_two (xs : List Nat) (i : Nat) : val (xs.drop i) % 2 = lat xs i % 2 := by
  rw [val_mod_two]
  unfold lat
  rw [List.getElem?_drop, Nat.add_zero]
end Go.Proofs.Ytnkhgkpijfohkaa
namespace Go.Proofs.Ytnkhgkpijfohkaa
open Go.RowKit
set_option linter.unusedVariables false
set_option linter.unusedSimpArgs false

theorem own_any {w : World} {base n : Nat} {v : Value} {hs : List Nat} (h : w.ownsRow base 23 1 v n (hs.map hv)) : ∃ A c g zs, v = .slice A n c ∧ base ≤ g ∧ hs.length = n ∧ (0 < n → A = some ⟨g, 0, none⟩ ∧ g < w.heap.size ∧ Hrow w g hs zs) := by
  by_cases hn : 0 < n
  · obtain ⟨g, c, zs, rfl, hb, _, _, hl, hr⟩ := own_hrow h hn
    exact ⟨_, c, g, zs, rfl, hb, hl, fun _ => ⟨rfl, hr.lt, hr⟩⟩
  · have hl : hs.length = n := by have := h.1; simpa using this
    rcases h.2 with ⟨rfl, rfl⟩ | ⟨g, cap, cur, rfl, h0, hb, h1, h2, h3, h4⟩
    · exact ⟨none, 0, base, [], rfl, Nat.le_refl _, hl, fun k => absurd k (by omega)⟩
    · exact ⟨_, cap, base, [], rfl, Nat.le_refl _, hl, fun k => absurd k hn⟩
theorem hl_of {w : World} {A : Option Addr} {g T : Nat} {ss : List Nat} {zs : List Value} (h : 0 < T → A = some ⟨g, 0, none⟩) (r : 0 < T → Hrow w g ss zs) (sl : ss.length = T) : Hl w A T ss := by
  by_cases hT : 0 < T
  · rw [h hT]; exact (r hT).hl sl
  · exact ⟨sl, fun j hj => by omega⟩
theorem mid_set (X ss : List Nat) (i v : Nat) (hi : i < X.length) (hs : ss.length = i) : (ss ++ X.drop i).set i v = ss ++ [v] ++ X.drop (i + 1) := by
  have e := set_part X ss v 0 i (by omega) hs
  simpa only [List.take_zero, List.nil_append, Nat.zero_add] using e
theorem mid_at (X ss : List Nat) (i : Nat) (hi : i < X.length) (hs : ss.length = i) : (ss ++ X.drop i)[i]? = some X[i] := by
  have e := part_at X ss 0 i (by omega) hs
  simpa only [List.take_zero, List.nil_append, Nat.zero_add] using e
theorem mid_len (X ss : List Nat) (i : Nat) (hi : i ≤ X.length) (hs : ss.length = i) : (ss ++ X.drop i).length = X.length := by simp; omega

/-- What is in the loop of Add. -/
structure Had (w : World) (g : Nat) (X Y : List Nat) (zs : List Value) (i k : Nat) (wr : World) : Prop where
  ss : ∃ ss, ss.length = i ∧ Ld ss ∧ hval ss + H16 ^ i * k = hval (X.take i) + hval (Y.take i) ∧ (0 < X.length → Hrow wr g (ss ++ X.drop i) zs)
  k1 : k ≤ 1
  t : Turn w wr g
section
variable {w : World} {g : Nat} {X Y : List Nat} {zs : List Value} {i k : Nat} {wr : World}
theorem Had.drew (h : Had w g X Y zs i k wr) : Had w g X Y zs i k wr.drew := by
  obtain ⟨ss, a, b, c, r⟩ := h.ss
  exact ⟨⟨ss, a, b, c, fun q => (r q).drew⟩, h.k1, h.t.drew⟩
theorem Had.cell (h : Had w g X Y zs i k wr) (hx : i < X.length) : wr.cell? ⟨g, i, none⟩ = some (.int .u64 (X[i] : Int)) ∧ wr.frozen? ⟨g, i, none⟩ = false := by
  obtain ⟨ss, a, b, c, r⟩ := h.ss
  exact ⟨(r (by omega)).cell' (mid_at X ss i hx a), (r (by omega)).melt _⟩
theorem Had.step (h : Had w g X Y zs i k wr) (hx : i < X.length) (hy : i < Y.length) (LX : Ld X) (LY : Ld Y) :
    Had w g X Y zs (i + 1) ((X[i] + Y[i] + k) / 65536) (wr.setCell ⟨g, i, none⟩ (hv ((X[i] + Y[i] + k) % 65536))) := by
  obtain ⟨ss, hl, ld, hval_, r⟩ := h.ss
  have hk := h.k1
  have b1 := LX.at_ i hx
  have b2 := LY.at_ i hy
  refine ⟨⟨ss ++ [(X[i] + Y[i] + k) % 65536], by simp [hl], ld.append (.cons (Nat.mod_lt _ (by decide)) .nil), ?_, fun q => ?_⟩, by omega, h.t.setCell _ _⟩
  · rw [hval_snoc, hl, hval_take_succ X i hx, hval_take_succ Y i hy, Nat.pow_succ]
    have := had_step (c := X[i] + Y[i] + k) hval_ (x := X[i]) (y := Y[i]) rfl
    rw [← H16_eq] at this
    rw [H16_eq] at *
    omega
  · have := (r q).set_ i (by rw [mid_len X ss i (by omega) hl]; exact hx) ((X[i] + Y[i] + k) % 65536)
    rwa [mid_set X ss i _ hx hl] at this
theorem Had.done {T : Nat} (h : Had w g X Y zs T k wr) (hx : X.length = T) (hy : Y.length = T) (lt : hval X + hval Y < H16 ^ T) :
    ∃ ss, ss.length = T ∧ Ld ss ∧ hval ss = hval X + hval Y ∧ (0 < T → Hrow wr g ss zs) := by
  obtain ⟨ss, hl, ld, hv_, r⟩ := h.ss
  rw [List.take_of_length_le (by omega), List.take_of_length_le (by omega)] at hv_
  have e : ss ++ X.drop T = ss := by rw [List.drop_of_length_le (by omega), List.append_nil]
  rw [e, hx] at r
  refine ⟨ss, hl, ld, ?_, r⟩
  have hk := h.k1
  have : k = 0 ∨ k = 1 := by omega
  rcases this with rfl | rfl
  · omega
  · rw [Nat.mul_one] at hv_; omega
end
theorem sum_lt {xs ys : List Nat} {M : Nat} (lx : Lo xs) (ly : Lo ys) (hx : xs.length ≤ M) (hy : ys.length ≤ M) : val xs + val ys < H16 ^ (2 * (M + 1)) := by
  have a := val_lt lx
  have b := val_lt ly
  have a' := Nat.pow_le_pow_right B_pos hx
  have b' := Nat.pow_le_pow_right B_pos hy
  rw [H16_pow, Nat.pow_succ]
  have : B ^ M * 2 ≤ B ^ M * B := Nat.mul_le_mul_left _ (by rw [B_eq]; decide)
  omega
theorem u64_sum (x y k : Nat) : Value.int IntKind.u64 (((x : Int) + (y : Int) + (k : Int)) % 65536) = hv ((x + y + k) % 65536) := congrArg (Value.int .u64) (by omega)
theorem u64_over (x y k : Nat) : Value.int IntKind.u64 (((x : Int) + (y : Int) + (k : Int)) / 65536) = hv ((x + y + k) / 65536) := congrArg (Value.int .u64) (by omega)

end Go.Proofs.Ytnkhgkpijfohkaa
