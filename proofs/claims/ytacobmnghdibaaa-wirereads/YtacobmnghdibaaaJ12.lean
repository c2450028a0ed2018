/- The document's answers for fractions: Small, Right, Reduce, big; told. The program's walk of rat. The program's walks of Text, Nat, Rat, Wide; Done. The program's walks of Rat (written) and Done. The program's walks of asked, and what ends it: a reader is moved, or lost. -/
import Derived.Test.YtacobmnghdibaaaJ08
import Derived.Test.YtacobmnghdibaaaJ11
import Derived.Test.YtacobmnghdibaaaJ06
import Derived.Test.YtacobmnghdibaaaJ07
import Derived.Defers
import Derived.Recover
import Derived.Laws.Pointers
namespace Go.Proofs.Ytacobmnghdibaaa
open Go.RowKit
set_option linter.unusedVariables false
set_option linter.unusedSimpArgs false

theorem addr_zero (ad : Addr) : ad.add 0 = ad := by unfold Addr.add; rw [if_pos rfl]
set_option maxHeartbeats 4000000 in
set_option maxRecDepth 100000 in
theorem small3_yes (A A' : Option Addr) (n c n' c' : Nat) (w : World) (h : n ≤ 70) (h' : n' ≤ 70) : Calls Try.prog 9 #[.agg #[.slice A n c, .slice A' n' c']] w fun e w' => e = .returned (.bool true) ∧ Below w.heap.size w w' := by
  have i1 : (n : Int) ≤ 70 := by omega
  have i2 : (n' : Int) ≤ 70 := by omega
  go_enter Try.func9, Try.ntmps9
  go_wp2_with fail
  go_ret
  exact ⟨rfl, (Below.refl _ _).alloc (Nat.le_refl _) _⟩
set_option maxHeartbeats 4000000 in
set_option maxRecDepth 100000 in
theorem small3_no (A A' : Option Addr) (n c n' c' : Nat) (w : World) (h : ¬ (n ≤ 70 ∧ n' ≤ 70)) : Calls Try.prog 9 #[.agg #[.slice A n c, .slice A' n' c']] w fun e w' => e = .returned (.bool false) ∧ Below w.heap.size w w' := by
  by_cases k : n ≤ 70
  · have i1 : (n : Int) ≤ 70 := by omega
    have i2 : ¬ (n' : Int) ≤ 70 := by omega
    go_enter Try.func9, Try.ntmps9
    go_wp2_with fail
    go_ret
    exact ⟨rfl, (Below.refl _ _).alloc (Nat.le_refl _) _⟩
  · have i1 : ¬ (n : Int) ≤ 70 := by omega
    go_enter Try.func9, Try.ntmps9
    go_wp2_with fail
    go_ret
    exact ⟨rfl, (Below.refl _ _).alloc (Nat.le_refl _) _⟩
set_option maxHeartbeats 4000000 in
set_option maxRecDepth 100000 in
theorem right3_no1 {A A' : Option Addr} {n c n' c' a b : Nat} {xs ys : List Nat} {w : World} (ha : Lim w A n c xs) (hb : Lim w A' n' c' ys) (k : ¬ Nt xs) : Calls Try.prog 13 #[.agg #[.slice A n c, .slice A' n' c']] w fun e w' => e = .returned (.bool false) ∧ Below w.heap.size w w' := by
  have S := (((Fs.start w).put ha).put hb).box (.slice A n c) (.slice A' n' c')
  go_enter Try.func13, Try.ntmps13
  go_wp2_with fail
  generalize w.alloc (.cells #[.slice A n c, .slice A' n' c'] 26) = w0 at *
  refine (refRight_no S.lie.2.1 k).mono ?_
  rintro e w' ⟨rfl, rfl⟩
  go_wp2_with fail
  go_ret
  exact ⟨rfl, S.bl⟩
set_option maxHeartbeats 4000000 in
set_option maxRecDepth 100000 in
theorem right3_no2 {A A' : Option Addr} {n c n' c' a b : Nat} {xs ys : List Nat} {w : World} (ha : Lim w A n c (limbs a)) (hb : Lim w A' n' c' ys) (la : ln a ≤ 64) (k : ¬ Nt ys) : Calls Try.prog 13 #[.agg #[.slice A n c, .slice A' n' c']] w fun e w' => e = .returned (.bool false) ∧ Below w.heap.size w w' := by
  have S := (((Fs.start w).put ha).put hb).box (.slice A n c) (.slice A' n' c')
  go_enter Try.func13, Try.ntmps13
  go_wp2_with fail
  generalize w.alloc (.cells #[.slice A n c, .slice A' n' c'] 26) = w0 at *
  refine (refRight_yes S.lie.2.1 la).mono ?_
  rintro e w' ⟨rfl, rfl⟩
  obtain ⟨⟨c0, c1, -⟩, -⟩ := S.cel
  go_wp2_with fail
  refine (refRight_no S.lie.1 k).mono ?_
  rintro e w' ⟨rfl, rfl⟩
  go_wp2_with fail
  go_ret
  exact ⟨rfl, S.bl⟩
set_option maxHeartbeats 4000000 in
set_option maxRecDepth 100000 in
theorem right3_no3 {A A' : Option Addr} {n c n' c' a b : Nat} {xs ys : List Nat} {w : World} (ha : Lim w A n c (limbs a)) (hb : Lim w A' n' c' (limbs b)) (la : ln a ≤ 64) (lb : ln b ≤ 64) (z : n' = 0) : Calls Try.prog 13 #[.agg #[.slice A n c, .slice A' n' c']] w fun e w' => e = .returned (.bool false) ∧ Below w.heap.size w w' := by
  subst z
  have S := (((Fs.start w).put ha).put hb).box (.slice A n c) (.slice A' 0 c')
  go_enter Try.func13, Try.ntmps13
  go_wp2_with fail
  generalize w.alloc (.cells #[.slice A n c, .slice A' 0 c'] 26) = w0 at *
  refine (refRight_yes S.lie.2.1 la).mono ?_
  rintro e w' ⟨rfl, rfl⟩
  obtain ⟨⟨c0, c1, -⟩, -⟩ := S.cel
  go_wp2_with fail
  refine (refRight_yes S.lie.1 lb).mono ?_
  rintro e w' ⟨rfl, rfl⟩
  go_wp2_with fail
  go_ret
  exact ⟨rfl, S.bl⟩
set_option maxHeartbeats 4000000 in
set_option maxRecDepth 100000 in
theorem right3_no4 {A A' : Option Addr} {n c n' c' a b : Nat} {xs ys : List Nat} {w : World} (ha : Lim w A n c (limbs a)) (hb : Lim w A' n' c' (limbs b)) (la : ln a ≤ 64) (lb : ln b ≤ 64) (z : n' ≠ 0) {g : Nat} (hg : Nat.gcd a b = g) (g1 : g ≠ 1) : Calls Try.prog 13 #[.agg #[.slice A n c, .slice A' n' c']] w fun e w' => e = .returned (.bool false) ∧ Below w.heap.size w w' := by
  have i0 : ((n' : Int) == 0) = false := by simp; omega
  have S := (((Fs.start w).put ha).put hb).box (.slice A n c) (.slice A' n' c')
  go_enter Try.func13, Try.ntmps13
  go_wp2_with fail
  generalize w.alloc (.cells #[.slice A n c, .slice A' n' c'] 26) = w0 at *
  refine (refRight_yes S.lie.2.1 la).mono ?_
  rintro e w' ⟨rfl, rfl⟩
  obtain ⟨⟨c0, c1, -⟩, -⟩ := S.cel
  go_wp2_with fail
  refine (refRight_yes S.lie.1 lb).mono ?_
  rintro e w' ⟨rfl, rfl⟩
  go_wp2_with fail
  have K := refGcd_any S.lie.2.1 S.lie.1 la lb
  rw [hg] at K
  refine K.mono ?_
  clear K
  rintro e w1 ⟨A1, n1, c1', rfl, L1, B1⟩
  have S := (S.next B1).put L1
  have hl := L1.len
  rw [limbs_length] at hl
  clear L1 B1 c0 c1
  by_cases q : n1 = 1
  · subst q
    have gb : g < 4294967296 := by
      have := lt_ln g
      rw [hl, Nat.pow_one, B_eq] at this
      exact this
    have g0 : g ≠ 0 := by
      rintro rfl
      rw [ln_zero] at hl
      omega
    have LL := S.lie.1
    rw [limbs_one gb g0] at LL
    obtain ⟨ad, rfl⟩ := LL.some_ (by decide)
    have c2 := LL.cell 0 (by simp)
    simp only [List.getElem_cons_zero] at c2
    have c3 := c2
    rw [addr_zero] at c3
    have i1 : ((g : Int) == 1) = false := by simp; omega
    clear LL gb g0 hl
    go_wp2_with fail
    go_ret
    exact ⟨rfl, S.bl⟩
  · have i1 : ((n1 : Int) == 1) = false := by simp; omega
    go_wp2_with fail
    go_ret
    exact ⟨rfl, S.bl⟩
set_option maxHeartbeats 4000000 in
set_option maxRecDepth 100000 in
theorem right3_yes {A A' : Option Addr} {n c n' c' a b : Nat} {xs ys : List Nat} {w : World} (ha : Lim w A n c (limbs a)) (hb : Lim w A' n' c' (limbs b)) (la : ln a ≤ 64) (lb : ln b ≤ 64) (z : n' ≠ 0) (hg : Nat.gcd a b = 1) : Calls Try.prog 13 #[.agg #[.slice A n c, .slice A' n' c']] w fun e w' => e = .returned (.bool true) ∧ Below w.heap.size w w' := by
  have i0 : ((n' : Int) == 0) = false := by simp; omega
  have S := (((Fs.start w).put ha).put hb).box (.slice A n c) (.slice A' n' c')
  go_enter Try.func13, Try.ntmps13
  go_wp2_with fail
  generalize w.alloc (.cells #[.slice A n c, .slice A' n' c'] 26) = w0 at *
  refine (refRight_yes S.lie.2.1 la).mono ?_
  rintro e w' ⟨rfl, rfl⟩
  obtain ⟨⟨c0, c1, -⟩, -⟩ := S.cel
  go_wp2_with fail
  refine (refRight_yes S.lie.1 lb).mono ?_
  rintro e w' ⟨rfl, rfl⟩
  go_wp2_with fail
  have K := refGcd_any S.lie.2.1 S.lie.1 la lb
  rw [hg] at K
  refine K.mono ?_
  clear K
  rintro e w1 ⟨A1, n1, c1', rfl, L1, B1⟩
  have S := (S.next B1).put L1
  have hl := L1.len
  rw [limbs_length] at hl
  clear L1 B1 c0 c1
  have LL := S.lie.1
  rw [limbs_one (x := 1) (by decide) (by decide)] at LL
  have q := LL.len
  obtain rfl : n1 = 1 := q.symm
  obtain ⟨ad, rfl⟩ := LL.some_ (by decide)
  have c2 := LL.cell 0 (by simp)
  simp only [List.getElem_cons_zero] at c2
  have c3 := c2
  rw [addr_zero] at c3
  clear LL hl q
  go_wp2_with fail
  go_ret
  exact ⟨rfl, S.bl⟩
theorem right3_any {A A' : Option Addr} {n c n' c' : Nat} {xs ys : List Nat} {w : World} (ha : Lim w A n c xs) (hb : Lim w A' n' c' ys) : Calls Try.prog 13 #[.agg #[.slice A n c, .slice A' n' c']] w fun e w' => e = .returned (.bool (frB xs ys)) ∧ Below w.heap.size w w' := by
  by_cases k1 : Nt xs
  · have e1 := k1.eq ha.lo
    have l1 : ln (val xs) = n := by rw [← limbs_length, ← e1]; exact ha.len
    have m1 := k1.1
    have q1 := ha.len
    by_cases k2 : Nt ys
    · have e2 := k2.eq hb.lo
      have l2 : ln (val ys) = n' := by rw [← limbs_length, ← e2]; exact hb.len
      have m2 := k2.1
      have q2 := hb.len
      by_cases z : n' = 0
      · rw [frB_no fun f => f.2.2.1 (List.length_eq_zero_iff.1 (by omega))]
        exact right3_no3 (a := val xs) (b := val ys) (xs := []) (ys := []) (e1 ▸ ha) (e2 ▸ hb) (by omega) (by omega) z
      · by_cases g : Nat.gcd (val xs) (val ys) = 1
        · rw [frB_yes ⟨k1, k2, fun y => z (by rw [← q2, y]; rfl), g⟩]
          exact right3_yes (a := val xs) (b := val ys) (xs := []) (ys := []) (e1 ▸ ha) (e2 ▸ hb) (by omega) (by omega) z g
        · rw [frB_no fun f => g f.2.2.2]
          exact right3_no4 (a := val xs) (b := val ys) (xs := []) (ys := []) (e1 ▸ ha) (e2 ▸ hb) (by omega) (by omega) z rfl g
    · rw [frB_no fun f => k2 f.2.1]
      exact right3_no2 (a := val xs) (b := 0) (xs := []) (e1 ▸ ha) hb (by omega) k2
  · rw [frB_no fun f => k1 f.1]
    exact right3_no1 (a := 0) (b := 0) ha hb k1
end Go.Proofs.Ytacobmnghdibaaa
namespace Go.Proofs.Ytacobmnghdibaaa
open Go.RowKit
set_option linter.unusedVariables false
set_option linter.unusedSimpArgs false
set_option maxHeartbeats 1000000
set_option maxRecDepth 100000
/-- The fraction that begins here, and how many bytes it has, or none. -/
@[irreducible] noncomputable def ratM (l : List UInt8) : Option (List Nat × List Nat × Nat) :=
  match natM l with
  | some (xs, k) => match natM (l.drop k) with
    | some (ys, k2) => if frB xs ys = true then some (xs, ys, k + k2) else none
    | none => none
  | none => none
theorem ratM_no1 {l : List UInt8} (h : natM l = none) : ratM l = none := by unfold ratM; rw [h]
theorem ratM_no2 {l : List UInt8} {xs : List Nat} {k : Nat} (h : natM l = some (xs, k)) (h2 : natM (l.drop k) = none) : ratM l = none := by unfold ratM; rw [h]; simp only []; rw [h2]
theorem ratM_no3 {l : List UInt8} {xs ys : List Nat} {k k2 : Nat} (h : natM l = some (xs, k)) (h2 : natM (l.drop k) = some (ys, k2)) (h3 : frB xs ys = false) : ratM l = none := by unfold ratM; rw [h]; simp only []; rw [h2]; simp only []; rw [h3]; rfl
theorem ratM_yes {l : List UInt8} {xs ys : List Nat} {k k2 : Nat} (h : natM l = some (xs, k)) (h2 : natM (l.drop k) = some (ys, k2)) (h3 : frB xs ys = true) : ratM l = some (xs, ys, k + k2) := by unfold ratM; rw [h]; simp only []; rw [h2]; simp only []; rw [h3]; rfl
/-- What rat answers. -/
def RetPQ (x : Option (List Nat × List Nat × Nat)) (b : ByteArray) (g : Nat) (w : World) (e : Ending) (w' : World) : Prop :=
  match x with
  | some (xs, ys, k) => ∃ A n c A' n' c', e = .returned (.agg #[.slice A n c, .slice A' n' c']) ∧ Lim w' A n c xs ∧ Lim w' A' n' c' ys ∧ (∀ ad, A = some ad → w.heap.size ≤ ad.block) ∧ (∀ ad, A' = some ad → w.heap.size ≤ ad.block) ∧ Tk g #[.string (b.extract k b.size)] w w'
  | none => e = .panicked lost8 ∧ ∃ r : ByteArray, Tk g #[.string r] w w'
theorem RetPQ.none_ {x : Option (List Nat × List Nat × Nat)} {b : ByteArray} {g : Nat} {w W : World} {r : ByteArray} (hx : x = none) (h : Tk g #[.string r] w W) : RetPQ x b g w (.panicked lost8) W := by rw [hx]; exact ⟨rfl, r, h⟩
abbrev zrat : Array Value := #[.slice none 0 0, .slice none 0 0]
theorem ratW_any {b : ByteArray} {g : Nat} {w : World} (h : Box w g #[.string b]) (hs : b.size ≤ 281474976710656) : Calls Try.prog 52 #[.pointer (some ⟨g, 0, none⟩)] w fun e w' => RetPQ (ratM (L b)) b g w e w' := by
  have KY := Lib.hid need_yes
  have KN := Lib.hid need_no
  have hlt := h.lt
  have T : Tk g #[.string b] w (w.alloc (.cells #[.slice none 0 0, .slice none 0 0] 26)) := (Tk.refl h).alloc _
  have R := Box.new w #[.slice none 0 0, .slice none 0 0] 26
  have SZ : Hid ((w.alloc (.cells #[.slice none 0 0, .slice none 0 0] 26)).heap.size = w.heap.size + 1) := by unfold Hid; simp
  obtain ⟨r, hr⟩ : ∃ r, w.heap.size = r := ⟨_, rfl⟩
  rw [hr] at R SZ
  have hne : Hid (g ≠ r) := by unfold Hid; omega
  have hrw : Hid (w.heap.size ≤ r) := by unfold Hid; omega
  have KM : Hid (∀ W, Box W g #[.string b] → _) := fun W hW => natW_any (w := W) hW hs
  clear hlt h
  cases h1 : natM (L b) with
  | none =>
    rw [h1] at KM
    have EN := Lib.hid (ratM_no1 h1)
    clear h1
    go_enter Try.func52, Try.ntmps52
    go_wp2_with fail
    clear hr
    generalize w.alloc (.cells #[.slice none 0 0, .slice none 0 0] 26) = W at *
    refine (KM.out _ T.box).mono ?_
    rintro e z ⟨rfl, b9, T1⟩
    replace T := T.trans T1
    go_wp2_with fail
    exact ⟨rfl, RetPQ.none_ EN.out T⟩
  | some x =>
    obtain ⟨xs, k⟩ := x
    rw [h1] at KM
    obtain ⟨b1, hb1⟩ : ∃ x, x = b.extract k b.size := ⟨_, rfl⟩
    have L1 : L b1 = (L b).drop k := by rw [hb1, L_drop]
    have s1 : b1.size ≤ 281474976710656 := by rw [hb1, ByteArray.size_extract]; omega
    have KM2 : Hid (∀ W, Box W g #[.string b1] → _) := fun W hW => natW_any (w := W) hW s1
    have HB1 := Lib.hid hb1
    clear s1 hb1
    cases h2 : natM (L b1) with
    | none =>
      rw [h2] at KM2
      have EN := Lib.hid (ratM_no2 h1 (by rw [← L1]; exact h2))
      clear h1 h2 L1
      go_enter Try.func52, Try.ntmps52
      go_wp2_with fail
      clear hr
      generalize w.alloc (.cells #[.slice none 0 0, .slice none 0 0] 26) = W at *
      refine (KM.out _ T.box).mono ?_
      rintro e z ⟨A, n, c, rfl, LA, FA, T1⟩
      rw [← HB1.out] at T1
      replace T := T.trans T1
      clear LA FA T1
      go_wp2_with fail
      refine (KM2.out _ T.box).mono ?_
      rintro e z ⟨rfl, b9, T1⟩
      replace T := T.trans T1
      go_wp2_with fail
      exact ⟨rfl, RetPQ.none_ EN.out T⟩
    | some x =>
      obtain ⟨ys, k2⟩ := x
      rw [h2] at KM2
      have h2' : natM ((L b).drop k) = some (ys, k2) := by rw [← L1]; exact h2
      have E2 : b1.extract k2 b1.size = b.extract (k + k2) b.size := L_inj (by rw [L_drop, L1, L_drop, List.drop_drop])
      have HE2 := Lib.hid E2
      have NO := Lib.hid (fun x => ratM_no3 h1 h2' x)
      have YES := Lib.hid (fun x => ratM_yes h1 h2' x)
      clear h1 h2 h2' L1 E2
      go_enter Try.func52, Try.ntmps52
      go_wp2_with fail
      clear hr
      generalize w.alloc (.cells #[.slice none 0 0, .slice none 0 0] 26) = W at *
      refine (KM.out _ T.box).mono ?_
      rintro e W1 ⟨A, n, c, rfl, LA, FA, T1⟩
      rw [← HB1.out] at T1
      replace R := R.tk T1 hne.out.symm
      have S1 := Lib.hid T1.size
      have gW := Lib.hid T.box.lt
      replace T := T.trans T1
      clear T1 KM
      go_wp2_with fail
      refine (KM2.out _ T.box).mono ?_
      rintro e W2 ⟨A', n', c', rfl, LB, FB, T1⟩
      rw [HE2.out] at T1
      replace R := R.tk T1 hne.out.symm
      replace LA := LA.tk T1 (fun ad ha => by have := FA ad ha; have := gW.out; omega)
      replace T := T.trans T1
      have S2 := Lib.hid T1.size
      clear T1 KM2
      obtain ⟨q, hq⟩ : ∃ q, W2.heap.size = q := ⟨_, rfl⟩
      have RL := R.lt
      have Q := Box.new W2 #[.slice A n c, .slice A' n' c'] 26
      rw [hq] at Q
      have BQ : Below W2.heap.size W2 (W2.alloc (.cells #[.slice A n c, .slice A' n' c'] 26)) := below_al (Below.refl _ _) _
      go_wp2_with fail
      replace R := R.next BQ
      replace LA := LA.next BQ
      replace LB := LB.next BQ
      replace T := T.next BQ
      have hrq : Hid (r ≠ q) := by unfold Hid; omega
      clear BQ hq RL
      generalize W2.alloc (.cells #[.slice A n c, .slice A' n' c'] 26) = W3 at *
      have KR := Lib.hid (ratRight_any LA LB)
      cases hf : frB xs ys with
      | false =>
        rw [hf] at KR
        have EN := Lib.hid (NO.out hf)
        clear hf NO YES
        refine KR.out.mono ?_
        rintro e W4 ⟨rfl, B4⟩
        replace T := T.next B4
        go_wp2_with fail
        refine (KN.out _).mono ?_
        rintro e z ⟨rfl, rfl⟩
        go_wp2_with fail
        exact ⟨rfl, RetPQ.none_ EN.out T⟩
      | true =>
        rw [hf] at KR
        have EN := Lib.hid (YES.out hf)
        clear hf NO YES
        refine KR.out.mono ?_
        rintro e W4 ⟨rfl, B4⟩
        replace T := T.next B4
        replace Q := Q.next B4
        replace R := R.next B4
        replace LA := LA.next B4
        replace LB := LB.next B4
        clear B4 KR
        go_wp2_with fail
        refine (KY.out _).mono ?_
        rintro e z ⟨rfl, rfl⟩
        obtain ⟨c0, c1⟩ := Q.two
        obtain ⟨d0, d1⟩ := R.two
        have m0 := R.melt 0; have m1 := R.melt 1
        go_wp2_with fail
        clear c0 c1 d0 d1 m0 m1
        replace R : Box _ r #[.slice A n c, .slice A' n' c'] := (R.set 0 (.slice A n c)).set 1 (.slice A' n' c')
        have fa : ∀ ad, A = some ad → ad.block ≠ r := fun ad ha => by have := FA ad ha; have := SZ.out; omega
        have fb : ∀ ad, A' = some ad → ad.block ≠ r := fun ad ha => by have := FB ad ha; have := SZ.out; have := S1.out; omega
        replace LA := (LA.put (p := ⟨r, 0, none⟩) fa (.slice A n c)).put (p := ⟨r, 1, none⟩) fa (.slice A' n' c')
        replace LB := (LB.put (p := ⟨r, 0, none⟩) fb (.slice A n c)).put (p := ⟨r, 1, none⟩) fb (.slice A' n' c')
        replace T := (T.far hrw.out hne.out 0 (.slice A n c)).far hrw.out hne.out 1 (.slice A' n' c')
        have FA2 : Hid (∀ ad, A = some ad → w.heap.size ≤ ad.block) := fun ad ha => by have := FA ad ha; have := SZ.out; have := hrw.out; omega
        have FB2 : Hid (∀ ad, A' = some ad → w.heap.size ≤ ad.block) := fun ad ha => by have := FB ad ha; have := SZ.out; have := S1.out; have := hrw.out; omega
        clear fa fb FA FB
        generalize (World.setCell (World.setCell _ ⟨r, 0, none⟩ (.slice A n c)) ⟨r, 1, none⟩ (.slice A' n' c')) = W9 at *
        obtain ⟨c0, c1⟩ := R.two
        refine bodyPost_ret (v := .agg #[.slice A n c, .slice A' n' c']) (by simp [results, Try.results52, go_sem, c0, c1]) rfl ?_
        rw [EN.out]
        exact ⟨A, n, c, A', n', c', rfl, LA, LB, FA2.out, FB2.out, T⟩
end Go.Proofs.Ytacobmnghdibaaa
namespace Go.Proofs.Ytacobmnghdibaaa
open Go.RowKit
set_option linter.unusedVariables false
set_option linter.unusedSimpArgs false
set_option maxHeartbeats 1000000
set_option maxRecDepth 100000
theorem wText_any (s : ByteArray) (hs : s.size ≤ 1000) (w : World) : Calls Try.prog 16 #[.string s] w fun e w' => e = .returned (.string (bs (enc s.size ++ L s))) ∧ Below w.heap.size w w' := by
  have K := Lib.hid (wNumber_any s.size (by omega))
  have H10 := enc_ten (show s.size < 18446744073709551616 by omega)
  have wz : IntKind.u64.wrap (s.size : Int) = s.size := by rw [IntKind.wrap_u64]; omega
  have E : Hid (bs (enc s.size) ++ s = bs (enc s.size ++ L s)) := L_inj (by rw [L_app, L_bs, L_bs])
  obtain ⟨t, ht⟩ : ∃ t, t = bs (enc s.size) := ⟨_, rfl⟩
  have tz : t.size ≤ 10 := by rw [ht, bs_size]; exact H10
  rw [← ht] at K E
  have hadd : ∀ W : World, (Op.stringOp .add t s).run Try.prog W = .ok (.string (t ++ s)) W := fun W => run_string_add_sum W t s (by omega)
  have hle : ¬ (9223372036854775807 < t.size + s.size) := by omega
  clear ht H10
  go_enter Try.func16, Try.ntmps16
  go_wp2_with fail
  refine (K.out _).mono ?_
  rintro e z ⟨rfl, B⟩
  go_wp2_with fail
  go_ret
  exact ⟨by rw [← E.out]; rfl, B⟩
theorem wWide_any (h l : Nat) (hh : h < 18446744073709551616) (hl : l < 18446744073709551616) (w : World) : Calls Try.prog 19 #[w128 (h, l)] w fun e w' => e = .returned (.string (bs (leb l 8 ++ leb h 8))) ∧ Below w.heap.size w w' := by
  have M := One.new w #[.int .u64 (h : Int), .int .u64 (l : Int)] 28
  obtain ⟨g, hg⟩ : ∃ g, w.heap.size = g := ⟨_, rfl⟩
  rw [hg] at M
  obtain ⟨c0, c1⟩ := M.bg.two
  have KA : Hid (∀ W : World, w.heap.size ≤ W.heap.size → _) := fun W hW => lowest_any [] l 8 hl (by decide) (by decide) W.heap.size (.slice none 0 0) W (Nat.le_refl _) (OwnB.nil _ _)
  have KB : Hid (∀ (W : World) (base : Nat) (v : Value), base ≤ W.heap.size → OwnB W base v (leb l 8) → _) := fun W base v h1 h2 => lowest_any (leb l 8) h 8 hh (by decide) (by rw [leb_len]; decide) base v W h1 h2
  simp only [List.nil_append] at KA
  go_enter Try.func19, Try.ntmps19
  go_wp2_with fail
  clear hg c0 c1
  generalize w.alloc (.cells #[.int .u64 (h : Int), .int .u64 (l : Int)] 28) = W at *
  have SZ0 := Lib.hid M.bl.size
  refine (KA.out _ M.bl.size).mono ?_
  rintro e W1 ⟨v1, rfl, O1, B1⟩
  replace M := M.next B1
  have SZ := B1.size
  obtain ⟨c0, c1⟩ := M.bg.two
  go_wp2_with fail
  refine (KB.out _ _ _ SZ O1).mono ?_
  rintro e W2 ⟨v2, rfl, O2, B2⟩
  have CV := O2.conv
  have BZ := Lib.hid (M.bl.trans (B2.mono SZ0.out) : Below w.heap.size w W2)
  clear O1 O2 B2 c0 c1 M
  go_wp2_with fail
  go_ret
  exact ⟨rfl, BZ.out⟩
/-- The bytes of a text, made anew. -/
theorem bytesB_new (W : World) (s : ByteArray) (hs : s.size ≤ 100000) : ∃ (v : Value) (W' : World), (convert 9 65 (.string s)).run Try.prog W = .ok v W' ∧ OwnB W' W.heap.size v (L s) ∧ Below W.heap.size W W' := by
  have hge := grownCap_ge W s.size 0 5
  have hle : grownCap W s.size 0 5 ≤ maxLen := grownCap_le_maxLen W s.size 0 5 (by unfold maxLen; omega)
  have R := run_bytes_of_string (P := Try.prog) W 9 65 5 s Try.underlying9 Try.underlying65 Try.underlying5
  generalize grownCap W s.size 0 5 = cap at *
  have sz : (bytesRow s cap).size = cap := by unfold bytesRow; simp; have : s.data.size = s.size := rfl; omega
  have sl : s.data.size = (L s).length := by simp
  refine ⟨_, _, R, Or.inr ⟨W.heap.size, cap, by rw [L_len], Nat.le_refl _, by simp [World.alloc], by rw [L_len]; exact hge, hle, fun j hj => ?_, fun j a b => ?_⟩, below_al (Below.refl _ _).drew _⟩
  · have := World.cell?_alloc_mark W.drew (bytesRow s cap) 5 ((bytesRow s cap).size, (bytesRow s cap).size + 1) j
    rw [bytesRow_at s _ j (by omega)] at this
    exact this
  · have e1 := World.cell?_alloc_mark W.drew (bytesRow s cap) 5 ((bytesRow s cap).size, (bytesRow s cap).size + 1) j
    have e2 := World.frozen?_alloc_mark W.drew (bytesRow s cap) 5 (bytesRow s cap).size ((bytesRow s cap).size + 1) j
    rw [show (decide ((bytesRow s cap).size ≤ j) && decide (j < (bytesRow s cap).size + 1)) = false by rw [decide_eq_false (by omega), Bool.false_and]] at e2
    refine ⟨?_, e2⟩
    have e3 : (bytesRow s cap)[j]?.isSome = true := by
      rw [Array.getElem?_eq_getElem (by omega)]; rfl
    rw [← e1] at e3
    exact e3
/-- Limbs as they are written, if they are a natural. -/
@[irreducible] noncomputable def natT (xs : List Nat) : ByteArray := if ntB xs = true then bs (natS xs) else ⟨#[]⟩
theorem natT_yes {xs : List Nat} (h : Nt xs) : natT xs = bs (natS xs) := by unfold natT; rw [ntB_yes h, if_pos rfl]
theorem natT_no {xs : List Nat} (h : ¬ Nt xs) : natT xs = ⟨#[]⟩ := by unfold natT; rw [ntB_no h, if_neg (by decide)]
theorem wNat_any {A : Option Addr} {n c : Nat} {xs : List Nat} {w : World} (h : Lim w A n c xs) : Calls Try.prog 17 #[.slice A n c] w fun e w' => e = .returned (.string (natT xs)) ∧ Below w.heap.size w w' := by
  have KR := Lib.hid (right_any h)
  by_cases nt : Nt xs
  · have hn : n ≤ 64 := by have := nt.1; have := h.len; omega
    rw [ntB_yes nt] at KR
    rw [natT_yes nt]
    have KN := Lib.hid (fun W => wNumber_any n (by omega) W)
    have HL := Lib.hid h
    have LX := Lib.hid h.len
    have EL : (enc n).length ≤ 10 := enc_ten (by omega)
    have wz : IntKind.u64.wrap (n : Int) = n := by rw [IntKind.wrap_u64]; omega
    have KL : Hid (∀ (x : Nat) (l : List UInt8) (base : Nat) (v : Value) (W : World), x < 18446744073709551616 → l.length ≤ 1000 → base ≤ W.heap.size → OwnB W base v l → _) := fun x l base v W hx hl hb ho => lowest_any l x 4 hx (by decide) hl base v W hb ho
    clear h nt
    go_enter Try.func17, Try.ntmps17
    go_wp2_with fail
    refine KR.out.mono ?_
    rintro e z ⟨rfl, rfl⟩
    go_wp2_with fail
    refine (KN.out _).mono ?_
    rintro e W1 ⟨rfl, B1⟩
    obtain ⟨v0, W2, CV, O2, B2⟩ := bytesB_new W1 (bs (enc n)) (by rw [bs_size]; omega)
    rw [L_bs] at O2
    have B0 : Below w.heap.size w W2 := below_step B1 B2
    have OB0 : OwnB W2 w.heap.size v0 (enc n ++ lbs (xs.take 0)) := by
      rw [List.take_zero, lbs_nil, List.append_nil]
      rcases O2 with x | ⟨g, cap, e, a, r⟩
      · exact Or.inl x
      · exact Or.inr ⟨g, cap, e, Nat.le_trans B1.size a, r⟩
    clear O2 B1 B2
    go_wp2_with fail
    clear CV
    go_loopg [3, 16] n (fun q s3 s16 wr => ∃ i : Nat, i + q = n ∧ s16 = .int .i64 (i : Int) ∧ OwnB wr w.heap.size s3 (enc n ++ lbs (xs.take i)) ∧ Below w.heap.size w wr)
    case atStart => exact ⟨0, by omega, rfl, OB0, B0⟩
    case round =>
      obtain ⟨i, hq, rfl, OB, BL⟩ := hrel
      have HQ := Lib.hid hq
      by_cases lt : i < n
      · have il : (i : Int) < n := by omega
        have il0 : (0 : Int) ≤ i := by omega
        have i1 : i < xs.length := by rw [LX.out]; exact lt
        obtain ⟨ad, rfl, c1⟩ := (HL.out.next BL).at_ i i1
        have bx := HL.out.lo.at_ i i1
        have ST : Hid ((enc n ++ lbs (xs.take i)) ++ leb xs[i] 4 = enc n ++ lbs (xs.take (i + 1))) := by
          unfold Hid
          rw [lbs_take i1, List.append_assoc]
        have SZ : (enc n ++ lbs (xs.take i)).length ≤ 1000 := by
          rw [List.length_append, lbs_len, List.length_take]; omega
        generalize xs[i] = x at *
        have wx : IntKind.u64.wrap (x : Int) = x := by rw [IntKind.wrap_u64]; omega
        have KL1 := Lib.hid (KL.out x _ _ _ _ (by omega) SZ BL.size OB)
        clear hq OB SZ
        go_wp2_with fail
        refine KL1.out.mono ?_
        rintro e W3 ⟨v3, rfl, O3, B3⟩
        rw [ST.out] at O3
        have OZ := Lib.hid O3
        have BW := Lib.hid (BL.trans B3)
        clear B3 BL O3
        go_wp2_with fail
        go_roundg (gk - 1)
        case measure => have := HQ.out; omega
        case rel =>
          go_light
          exact ⟨i + 1, by have := HQ.out; omega, by go_num, OZ.out, BW.out⟩
      · obtain rfl : i = n := by omega
        have il : ¬ (i : Int) < i := by omega
        have CV := OB.conv
        have ES : Hid (enc i ++ lbs (xs.take i) = natS xs) := by
          unfold Hid
          rw [List.take_of_length_le (by rw [LX.out]; exact Nat.le_refl _)]
          show _ = enc xs.length ++ lbs xs
          rw [LX.out]
        rw [ES.out] at CV
        have BH := Lib.hid BL
        clear OB BL hq
        go_wp2_with fail
        go_ret
        exact ⟨rfl, BH.out⟩
  · rw [ntB_no nt] at KR
    rw [natT_no nt]
    clear nt h
    go_enter Try.func17, Try.ntmps17
    go_wp2_with fail
    refine KR.out.mono ?_
    rintro e z ⟨rfl, rfl⟩
    go_wp2_with fail
    go_ret
    exact ⟨rfl, Below.refl _ _⟩
end Go.Proofs.Ytacobmnghdibaaa
namespace Go.Proofs.Ytacobmnghdibaaa
open Go.RowKit
set_option linter.unusedVariables false
set_option linter.unusedSimpArgs false
set_option maxHeartbeats 1000000
set_option maxRecDepth 100000
/-- Both limbs as they are written, if they are a fraction. -/
@[irreducible] noncomputable def ratT (xs ys : List Nat) : ByteArray := if frB xs ys = true then bs (natS xs ++ natS ys) else ⟨#[]⟩
theorem ratT_yes {xs ys : List Nat} (h : Fr xs ys) : ratT xs ys = bs (natS xs ++ natS ys) := by unfold ratT; rw [frB_yes h, if_pos rfl]
theorem ratT_no {xs ys : List Nat} (h : ¬ Fr xs ys) : ratT xs ys = ⟨#[]⟩ := by unfold ratT; rw [frB_no h, if_neg (by decide)]
theorem natS_len {xs : List Nat} (h : Nt xs) : (natS xs).length ≤ 266 := by
  have a := h.1
  rw [List.length_append, lbs_len]
  have := enc_ten (show xs.length < 18446744073709551616 by omega)
  omega
theorem wRat_any {A A' : Option Addr} {n c n' c' : Nat} {xs ys : List Nat} {w : World} (ha : Lim w A n c xs) (hb : Lim w A' n' c' ys) : Calls Try.prog 18 #[.agg #[.slice A n c, .slice A' n' c']] w fun e w' => e = .returned (.string (ratT xs ys)) ∧ Below w.heap.size w w' := by
  have M := One.new w #[.slice A n c, .slice A' n' c'] 26
  obtain ⟨g, hg⟩ : ∃ g, w.heap.size = g := ⟨_, rfl⟩
  rw [hg] at M
  obtain ⟨c0, c1⟩ := M.bg.two
  replace ha := ha.next M.bl
  replace hb := hb.next M.bl
  have KR := Lib.hid (ratRight_any ha hb)
  by_cases hf : Fr xs ys
  · rw [frB_yes hf] at KR
    have X1 := natS_len hf.1
    have X2 := natS_len hf.2.1
    have T1 := natT_yes hf.1
    have T2 := natT_yes hf.2.1
    have E : Hid (bs (natS xs) ++ bs (natS ys) = ratT xs ys) := by
      unfold Hid
      rw [ratT_yes hf]
      exact L_inj (by rw [L_app, L_bs, L_bs, L_bs])
    have HA := Lib.hid ha; have HB := Lib.hid hb
    rw [← bs_size] at X1 X2
    go_enter Try.func18, Try.ntmps18
    go_wp2_with fail
    clear hg c0 c1 ha hb
    generalize w.alloc (.cells #[.slice A n c, .slice A' n' c'] 26) = W at *
    refine KR.out.mono ?_
    rintro e W1 ⟨rfl, B1⟩
    replace M := M.next B1
    have KA : Hid (∀ Z : World, Below W1.heap.size W1 Z → _) := fun Z hZ => wNat_any ((HA.out.next B1).next hZ)
    have KB : Hid (∀ Z : World, Below W1.heap.size W1 Z → _) := fun Z hZ => wNat_any ((HB.out.next B1).next hZ)
    rw [T1] at KA
    rw [T2] at KB
    have MH := Lib.hid M
    obtain ⟨c0, c1⟩ := M.bg.two
    generalize bs (natS xs) = s1 at *
    generalize bs (natS ys) = s2 at *
    have hadd : ∀ W : World, (Op.stringOp .add s1 s2).run Try.prog W = .ok (.string (s1 ++ s2)) W := fun W => run_string_add_sum W s1 s2 (by omega)
    have hle : ¬ (9223372036854775807 < s1.size + s2.size) := by omega
    clear T1 T2 HA HB B1 M KR X1 X2 hf
    go_wp2_with fail
    go_region_held3 (fun w' => w'.cell? ⟨g, 0, none⟩ = some (.slice A n c) ∧ w'.cell? ⟨g, 1, none⟩ = some (.slice A' n' c'))
      ((refine ⟨?_, ?_⟩ <;> (repeat (first | with_reducible exact c0 | with_reducible exact c1 | with_reducible refine keep_drew ?_ | with_reducible refine keep_cell (by assumption) ?_))))
      (first
        | (go_at_call 17; (with_reducible refine (KA.out _ ?_).mono ?_); (· repeat (first | with_reducible exact (Below.refl _ _).drew | refine below_step ?_ (by assumption))); rintro e z ⟨rfl, BZ⟩)
        | (go_at_call 17; (with_reducible refine (KB.out _ ?_).mono ?_); (· repeat (first | with_reducible exact (Below.refl _ _).drew | refine below_step ?_ (by assumption))); rintro e z ⟨rfl, BZ⟩))
    all_goals go_wp2_with fail
    all_goals go_ret
    all_goals refine ⟨by rw [← E.out]; rfl, below_step MH.out.bl ?_⟩
    all_goals (repeat (first | with_reducible exact (Below.refl _ _).drew | refine below_step ?_ (by assumption)))
  · rw [frB_no hf] at KR
    rw [ratT_no hf]
    have MH := Lib.hid M.bl
    clear hf M
    go_enter Try.func18, Try.ntmps18
    go_wp2_with fail
    clear hg c0 c1 ha hb
    generalize w.alloc (.cells #[.slice A n c, .slice A' n' c'] 26) = W at *
    refine KR.out.mono ?_
    rintro e W1 ⟨rfl, B1⟩
    go_wp2_with fail
    go_ret
    exact ⟨rfl, below_step MH.out B1⟩
/-- Is all read? -/
def okD (s : ByteArray) (p : Int) (lo : Bool) : Int := if lo = false ∧ p = (s.size : Int) then 0 else 2
theorem done_any {s : ByteArray} {p : Int} {lo : Bool} {g : Nat} {w : World} (h : Box w g #[.string s, .int .i64 p, .bool lo]) (hs : s.size ≤ 281474976710656) : Calls Try.prog 23 #[.pointer (some ⟨g, 0, none⟩)] w fun e w' => e = .returned (.int .i64 (okD s p lo)) ∧ Below w.heap.size w w' := by
  obtain ⟨c0, c1, c2⟩ := h.three
  cases lo
  · by_cases e : p = (s.size : Int)
    · rw [show okD s p false = 0 by unfold okD; rw [if_pos ⟨rfl, e⟩]]
      have hb : (p != (s.size : Int)) = false := by rw [e]; simp
      clear e
      go_enter Try.func23, Try.ntmps23
      go_wp2_with fail
      go_quiet (fail)
      go_wp2_with fail
      go_ret
      exact ⟨rfl, below_drewN (Below.refl _ _) _⟩
    · rw [show okD s p false = 2 by unfold okD; rw [if_neg (fun x => e x.2)]]
      have hb : (p != (s.size : Int)) = true := by simpa using e
      clear e
      go_enter Try.func23, Try.ntmps23
      go_wp2_with fail
      go_quiet (fail)
      go_wp2_with fail
      go_ret
      exact ⟨rfl, below_drewN (Below.refl _ _) _⟩
  · rw [show okD s p true = 2 by unfold okD; rw [if_neg (fun x => by cases x.1)]]
    go_enter Try.func23, Try.ntmps23
    go_wp2_with fail
    go_quiet (fail)
    go_wp2_with fail
    go_ret
    exact ⟨rfl, below_drewN (Below.refl _ _) _⟩
theorem done_nil (w : World) : Calls Try.prog 23 #[.pointer none] w fun e w' => e = .returned (.int .i64 2) ∧ Below w.heap.size w w' := by
  go_enter Try.func23, Try.ntmps23
  go_wp2_with fail
  go_quiet (fail)
  go_wp2_with fail
  go_ret
  exact ⟨rfl, below_drewN (Below.refl _ _) _⟩
end Go.Proofs.Ytacobmnghdibaaa
namespace Go.Proofs.Ytacobmnghdibaaa
open Go.RowKit
set_option linter.unusedVariables false
set_option linter.unusedSimpArgs false
set_option maxHeartbeats 1000000
set_option maxRecDepth 100000
/-- The reader after an answer: behind it, or lost. -/
abbrev rdc (s : ByteArray) (p : Int) : Option Nat → Array Value
  | some k => #[.string s, .int .i64 (p + k), .bool false]
  | none => #[.string s, .int .i64 p, .bool true]
theorem catchN_lost {q : Addr} {g : Nat} {s : ByteArray} {p : Int} {lo : Bool} {x : TypeId} {pv : Value} {older : List PanicEntry} {w : World} (hc : w.cell? q = some (.pointer (some ⟨g, 0, none⟩))) (h : Box w g #[.string s, .int .i64 p, .bool lo]) :
    CallsD Try.prog 68 #[.pointer (some q)] (.panicking ({ v := .iface x pv, recovered := false } :: older)) w fun e u' w' =>
      e = .returned (.tuple #[]) ∧ u' = .panicking ({ v := .iface x pv, recovered := true } :: older) ∧ w' = w.setCell ⟨g, 2, none⟩ (.bool true) := by
  obtain ⟨c0, c1, c2⟩ := h.three
  have m2 := h.melt 2
  refine callsD_of_wpS Try.func68 rfl fun c₀ cs hu => ?_
  apply wpS_seq
  apply wpS_region
  simp [wpOpsS, go_sem, recoverD, hu, Try.ntmps68, Exit.thenS]
  refine wpS_cond (t := true) (by simp [Act.eval, Array.replicate]) ?_
  simp only [if_true]
  apply wpS_region
  simp [wpOpsS, go_sem, hc, c2, m2, bodyPostS, results, Try.results68]
theorem catchN_idle (q : Addr) (w : World) :
    CallsD Try.prog 68 #[.pointer (some q)] .returning w fun e u' w' => e = .returned (.tuple #[]) ∧ u' = .returning ∧ w' = w := by
  refine callsD_of_wpS Try.func68 rfl fun c₀ cs hu => ?_
  apply wpS_seq
  apply wpS_region
  simp [wpOpsS, go_sem, recoverD, hu, Try.ntmps68, Exit.thenS]
  refine wpS_cond (t := false) (by simp [Act.eval, Array.replicate]) ?_
  simp only [Bool.false_eq_true, if_false]
  refine wpS_of_wp (wp_skip ?_)
  cases c₀
  simp_all [bodyPostS, results, Try.results68]
theorem catchT_lost {q : Addr} {g : Nat} {s : ByteArray} {p : Int} {lo : Bool} {x : TypeId} {pv : Value} {older : List PanicEntry} {w : World} (hc : w.cell? q = some (.pointer (some ⟨g, 0, none⟩))) (h : Box w g #[.string s, .int .i64 p, .bool lo]) :
    CallsD Try.prog 72 #[.pointer (some q)] (.panicking ({ v := .iface x pv, recovered := false } :: older)) w fun e u' w' =>
      e = .returned (.tuple #[]) ∧ u' = .panicking ({ v := .iface x pv, recovered := true } :: older) ∧ w' = w.setCell ⟨g, 2, none⟩ (.bool true) := by
  obtain ⟨c0, c1, c2⟩ := h.three
  have m2 := h.melt 2
  refine callsD_of_wpS Try.func72 rfl fun c₀ cs hu => ?_
  apply wpS_seq
  apply wpS_region
  simp [wpOpsS, go_sem, recoverD, hu, Try.ntmps72, Exit.thenS]
  refine wpS_cond (t := true) (by simp [Act.eval, Array.replicate]) ?_
  simp only [if_true]
  apply wpS_region
  simp [wpOpsS, go_sem, hc, c2, m2, bodyPostS, results, Try.results72]
theorem catchT_idle (q : Addr) (w : World) :
    CallsD Try.prog 72 #[.pointer (some q)] .returning w fun e u' w' => e = .returned (.tuple #[]) ∧ u' = .returning ∧ w' = w := by
  refine callsD_of_wpS Try.func72 rfl fun c₀ cs hu => ?_
  apply wpS_seq
  apply wpS_region
  simp [wpOpsS, go_sem, recoverD, hu, Try.ntmps72, Exit.thenS]
  refine wpS_cond (t := false) (by simp [Act.eval, Array.replicate]) ?_
  simp only [Bool.false_eq_true, if_false]
  refine wpS_of_wp (wp_skip ?_)
  cases c₀
  simp_all [bodyPostS, results, Try.results72]
theorem catchA_lost {q : Addr} {g : Nat} {s : ByteArray} {p : Int} {lo : Bool} {x : TypeId} {pv : Value} {older : List PanicEntry} {w : World} (hc : w.cell? q = some (.pointer (some ⟨g, 0, none⟩))) (h : Box w g #[.string s, .int .i64 p, .bool lo]) :
    CallsD Try.prog 74 #[.pointer (some q)] (.panicking ({ v := .iface x pv, recovered := false } :: older)) w fun e u' w' =>
      e = .returned (.tuple #[]) ∧ u' = .panicking ({ v := .iface x pv, recovered := true } :: older) ∧ w' = w.setCell ⟨g, 2, none⟩ (.bool true) := by
  obtain ⟨c0, c1, c2⟩ := h.three
  have m2 := h.melt 2
  refine callsD_of_wpS Try.func74 rfl fun c₀ cs hu => ?_
  apply wpS_seq
  apply wpS_region
  simp [wpOpsS, go_sem, recoverD, hu, Try.ntmps74, Exit.thenS]
  refine wpS_cond (t := true) (by simp [Act.eval, Array.replicate]) ?_
  simp only [if_true]
  apply wpS_region
  simp [wpOpsS, go_sem, hc, c2, m2, bodyPostS, results, Try.results74]
theorem catchA_idle (q : Addr) (w : World) :
    CallsD Try.prog 74 #[.pointer (some q)] .returning w fun e u' w' => e = .returned (.tuple #[]) ∧ u' = .returning ∧ w' = w := by
  refine callsD_of_wpS Try.func74 rfl fun c₀ cs hu => ?_
  apply wpS_seq
  apply wpS_region
  simp [wpOpsS, go_sem, recoverD, hu, Try.ntmps74, Exit.thenS]
  refine wpS_cond (t := false) (by simp [Act.eval, Array.replicate]) ?_
  simp only [Bool.false_eq_true, if_false]
  refine wpS_of_wp (wp_skip ?_)
  cases c₀
  simp_all [bodyPostS, results, Try.results74]
theorem catchQ_lost {q : Addr} {g : Nat} {s : ByteArray} {p : Int} {lo : Bool} {x : TypeId} {pv : Value} {older : List PanicEntry} {w : World} (hc : w.cell? q = some (.pointer (some ⟨g, 0, none⟩))) (h : Box w g #[.string s, .int .i64 p, .bool lo]) :
    CallsD Try.prog 76 #[.pointer (some q)] (.panicking ({ v := .iface x pv, recovered := false } :: older)) w fun e u' w' =>
      e = .returned (.tuple #[]) ∧ u' = .panicking ({ v := .iface x pv, recovered := true } :: older) ∧ w' = w.setCell ⟨g, 2, none⟩ (.bool true) := by
  obtain ⟨c0, c1, c2⟩ := h.three
  have m2 := h.melt 2
  refine callsD_of_wpS Try.func76 rfl fun c₀ cs hu => ?_
  apply wpS_seq
  apply wpS_region
  simp [wpOpsS, go_sem, recoverD, hu, Try.ntmps76, Exit.thenS]
  refine wpS_cond (t := true) (by simp [Act.eval, Array.replicate]) ?_
  simp only [if_true]
  apply wpS_region
  simp [wpOpsS, go_sem, hc, c2, m2, bodyPostS, results, Try.results76]
theorem catchQ_idle (q : Addr) (w : World) :
    CallsD Try.prog 76 #[.pointer (some q)] .returning w fun e u' w' => e = .returned (.tuple #[]) ∧ u' = .returning ∧ w' = w := by
  refine callsD_of_wpS Try.func76 rfl fun c₀ cs hu => ?_
  apply wpS_seq
  apply wpS_region
  simp [wpOpsS, go_sem, recoverD, hu, Try.ntmps76, Exit.thenS]
  refine wpS_cond (t := false) (by simp [Act.eval, Array.replicate]) ?_
  simp only [Bool.false_eq_true, if_false]
  refine wpS_of_wp (wp_skip ?_)
  cases c₀
  simp_all [bodyPostS, results, Try.results76]
theorem catchW_lost {q : Addr} {g : Nat} {s : ByteArray} {p : Int} {lo : Bool} {x : TypeId} {pv : Value} {older : List PanicEntry} {w : World} (hc : w.cell? q = some (.pointer (some ⟨g, 0, none⟩))) (h : Box w g #[.string s, .int .i64 p, .bool lo]) :
    CallsD Try.prog 77 #[.pointer (some q)] (.panicking ({ v := .iface x pv, recovered := false } :: older)) w fun e u' w' =>
      e = .returned (.tuple #[]) ∧ u' = .panicking ({ v := .iface x pv, recovered := true } :: older) ∧ w' = w.setCell ⟨g, 2, none⟩ (.bool true) := by
  obtain ⟨c0, c1, c2⟩ := h.three
  have m2 := h.melt 2
  refine callsD_of_wpS Try.func77 rfl fun c₀ cs hu => ?_
  apply wpS_seq
  apply wpS_region
  simp [wpOpsS, go_sem, recoverD, hu, Try.ntmps77, Exit.thenS]
  refine wpS_cond (t := true) (by simp [Act.eval, Array.replicate]) ?_
  simp only [if_true]
  apply wpS_region
  simp [wpOpsS, go_sem, hc, c2, m2, bodyPostS, results, Try.results77]
theorem catchW_idle (q : Addr) (w : World) :
    CallsD Try.prog 77 #[.pointer (some q)] .returning w fun e u' w' => e = .returned (.tuple #[]) ∧ u' = .returning ∧ w' = w := by
  refine callsD_of_wpS Try.func77 rfl fun c₀ cs hu => ?_
  apply wpS_seq
  apply wpS_region
  simp [wpOpsS, go_sem, recoverD, hu, Try.ntmps77, Exit.thenS]
  refine wpS_cond (t := false) (by simp [Act.eval, Array.replicate]) ?_
  simp only [Bool.false_eq_true, if_false]
  refine wpS_of_wp (wp_skip ?_)
  cases c₀
  simp_all [bodyPostS, results, Try.results77]
end Go.Proofs.Ytacobmnghdibaaa
