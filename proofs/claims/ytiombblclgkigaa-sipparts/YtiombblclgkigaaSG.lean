/- Sum, New, right, Clone of the program. -/
import Derived.Test.YtiombblclgkigaaSF
import Derived.Test.YtiombblclgkigaaSMB
namespace Go.Proofs.Ytiombblclgkigaa
open Go.RowKit
set_option maxHeartbeats 4000000
set_option maxRecDepth 100000
/-- A seed. -/
abbrev seed (p q : BitVec 64) : Value := .agg #[.int .u64 (I p), .int .u64 (I q)]
theorem sum_any (p q : BitVec 64) (s : ByteArray) (hs : s.size < 9223372036854775808) (w : World) : Calls Try.prog 9 #[seed p q, .string s] w fun e w' => e = .returned (.int .u64 (I (hash p q (L s)))) ∧ Below w.heap.size w w' := by
  have KS := Lib.hid (start_any p q)
  obtain ⟨v0, hv⟩ : ∃ v, Hid (v = start p q) := ⟨_, Lib.hid rfl⟩
  rw [← hv.out] at KS
  have KE := Lib.hid (takeEights_any v0 s)
  obtain ⟨⟨y0, y1, y2, y3⟩, hy⟩ : ∃ x, Hid (x = eights v0 (L s)) := ⟨_, Lib.hid rfl⟩
  obtain ⟨t, ht⟩ : ∃ x, Hid (x = bs (rest (L s))) := ⟨_, Lib.hid rfl⟩
  rw [← hy.out, ← ht.out] at KE
  have KF := Lib.hid (finish_any ⟨y0, y1, y2, y3⟩ t (by rw [ht.out, bs_size, rest_len]; omega) s.size hs)
  have E : Hid (hash p q (L s) = finish ⟨y0, y1, y2, y3⟩ (lastn (L t) s.size)) := by
    unfold Hid hash; rw [← hv.out, ← hy.out, ht.out, L_len]
  rw [← E.out] at KF
  generalize hash p q (L s) = H at *
  clear hs
  go_enter Try.func9, Try.ntmps9
  go_wp2_with fail
  refine (KS.out _).mono ?_
  rintro e W1 ⟨rfl, B1⟩
  replace B1 := below_step ((Below.refl w.heap.size w).alloc (Nat.le_refl _) _) B1
  go_wp2_with fail
  refine (KE.out _).mono ?_
  rintro e W2 ⟨rfl, B2⟩
  replace B1 := below_step B1 B2
  clear B2
  go_wp2_with fail
  refine (KF.out _).mono ?_
  rintro e W3 ⟨rfl, B2⟩
  replace B1 := below_step (below_al B1 _) B2
  go_wp2_with fail
  go_ret
  exact ⟨rfl, B1⟩
/-- A hash that goes on. -/
structure Hs where
  v : V4
  t : ByteArray
  n : Int
abbrev Hs.cells (h : Hs) : Array Value := #[.int .u64 (I h.v.a), .int .u64 (I h.v.b), .int .u64 (I h.v.c), .int .u64 (I h.v.d), .string h.t, .int .i64 h.n]
abbrev Hs.val (h : Hs) : Value := .agg h.cells
/-- May it be? -/
def Hs.ok (h : Hs) : Bool := decide (0 ≤ h.n) && decide ((h.t.size : Int) = h.n % 8)
theorem new_any (p q : BitVec 64) (w : World) : Calls Try.prog 11 #[seed p q] w fun e w' => e = .returned (Hs.val ⟨start p q, ⟨#[]⟩, 0⟩) ∧ Below w.heap.size w w' := by
  have KS := Lib.hid (start_any p q)
  obtain ⟨⟨y0, y1, y2, y3⟩, hv⟩ : ∃ v, Hid (v = start p q) := ⟨_, Lib.hid rfl⟩
  rw [← hv.out] at KS
  rw [← hv.out]
  have KA := Lib.hid (array_any ⟨y0, y1, y2, y3⟩)
  go_enter Try.func11, Try.ntmps11
  go_wp2_with fail
  refine (KS.out _).mono ?_
  rintro e W1 ⟨rfl, B1⟩
  have M := (Two.new w #[.int .u64 (I p), .int .u64 (I q)] #[.int .u64 0, .int .u64 0, .int .u64 0, .int .u64 0, .string ⟨#[]⟩, .int .i64 0] 24 31).next B1
  clear B1
  obtain ⟨g, hg⟩ : ∃ g, g = w.heap.size := ⟨_, rfl⟩
  obtain ⟨r, hr⟩ : ∃ r, r = g + 1 := ⟨_, rfl⟩
  rw [← hg, ← hr] at M
  rw [← hg, ← hr]
  clear hg hr
  go_wp2_with fail
  refine (KA.out _).mono ?_
  rintro e W2 ⟨rfl, B1⟩
  replace M := M.next B1
  clear B1
  have k0 := M.br.cell (i := 0) rfl; have k1 := M.br.cell (i := 1) rfl; have k2 := M.br.cell (i := 2) rfl; have k3 := M.br.cell (i := 3) rfl; have k4 := M.br.cell (i := 4) rfl; have k5 := M.br.cell (i := 5) rfl
  have m0 := M.br.melt 0; have m1 := M.br.melt 1; have m2 := M.br.melt 2; have m3 := M.br.melt 3; have m4 := M.br.melt 4; have m5 := M.br.melt 5
  go_wp2_with fail
  clear k0 k1 k2 k3 k4 k5 m0 m1 m2 m3 m4 m5
  replace M := M.put6 (.int .u64 (I y0)) (.int .u64 (I y1)) (.int .u64 (I y2)) (.int .u64 (I y3)) (.string ⟨#[]⟩) (.int .i64 0)
  generalize (((((W2.setCell ⟨r, 0, none⟩ (.int .u64 (I y0))).setCell ⟨r, 1, none⟩ (.int .u64 (I y1))).setCell ⟨r, 2, none⟩ (.int .u64 (I y2))).setCell ⟨r, 3, none⟩ (.int .u64 (I y3))).setCell ⟨r, 4, none⟩ (.string ⟨#[]⟩)).setCell ⟨r, 5, none⟩ (.int .i64 0) = W3 at *
  have k0 := M.br.cell (i := 0) rfl; have k1 := M.br.cell (i := 1) rfl; have k2 := M.br.cell (i := 2) rfl; have k3 := M.br.cell (i := 3) rfl; have k4 := M.br.cell (i := 4) rfl; have k5 := M.br.cell (i := 5) rfl
  exact bodyPost_ret (v := Hs.val ⟨⟨y0, y1, y2, y3⟩, ⟨#[]⟩, 0⟩) (by simp [results, Try.results11, go_sem, k0, k1, k2, k3, k4, k5]) rfl ⟨rfl, M.bl⟩
theorem right_any (v : V4) (t : ByteArray) (n : Int) (w : World) : Calls Try.prog 20 #[.agg #[.int .u64 (I v.a), .int .u64 (I v.b), .int .u64 (I v.c), .int .u64 (I v.d), .string t, .int .i64 n]] w fun e w' => e = .returned (.bool (Hs.ok ⟨v, t, n⟩)) ∧ Below w.heap.size w w' := by
  obtain ⟨y0, y1, y2, y3⟩ := v
  by_cases h : 0 ≤ n
  · have E : Hid (Hs.ok ⟨⟨y0, y1, y2, y3⟩, t, n⟩ = ((t.size : Int) == n % 8)) := by
      unfold Hid Hs.ok
      simp only [h, decide_true, Bool.true_and]; rfl
    go_enter Try.func20, Try.ntmps20
    go_wp2_with fail
    go_ret
    exact ⟨by rw [E.out]; rfl, (Below.refl _ _).alloc (Nat.le_refl _) _⟩
  · have E : Hid (Hs.ok ⟨⟨y0, y1, y2, y3⟩, t, n⟩ = false) := by
      unfold Hid Hs.ok
      simp [h]
    replace h : n < 0 := by omega
    go_enter Try.func20, Try.ntmps20
    go_wp2_with fail
    go_ret
    exact ⟨by rw [E.out]; rfl, (Below.refl _ _).alloc (Nat.le_refl _) _⟩
theorem clone_any (t : ByteArray) (ht : t.size ≤ 8) (w : World) : Calls Try.prog 22 #[.string t] w fun e w' => e = .returned (.string t) ∧ Below w.heap.size w w' := by
  have K := Lib.hid (fun W => Try.stringslite_Clone t W (by omega))
  clear ht
  go_enter Try.func22, Try.ntmps22
  go_wp2_with fail
  refine (K.out _).mono ?_
  rintro e W1 ⟨rfl, B1⟩
  go_wp2_with fail
  go_ret
  exact ⟨rfl, B1⟩
end Go.Proofs.Ytiombblclgkigaa
