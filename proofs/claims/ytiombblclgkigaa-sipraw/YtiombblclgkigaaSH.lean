/- Write, Done of the program. -/
import Derived.Test.YtiombblclgkigaaSG
namespace Go.Proofs.Ytiombblclgkigaa
open Go.RowKit
set_option maxHeartbeats 4000000
set_option maxRecDepth 100000
/-- The hash of one that goes on; one with more behind. -/
def Hs.fin (h : Hs) : BitVec 64 := finish h.v (lastn (L h.t) h.n.toNat)
def Hs.wr (h : Hs) (s : ByteArray) : Hs := ⟨eights h.v (L h.t ++ L s), bs (rest (L h.t ++ L s)), h.n + s.size⟩
theorem Hs.ok_n {h : Hs} (k : h.ok = true) : 0 ≤ h.n := by unfold Hs.ok at k; simp at k; exact k.1
theorem Hs.ok_t {h : Hs} (k : h.ok = true) : (h.t.size : Int) = h.n % 8 := by unfold Hs.ok at k; simp at k; exact k.2
theorem done_no (h : Hs) (hk : h.ok = false) (w : World) : Calls Try.prog 14 #[h.val] w fun e w' => e = .returned (.int .u64 0) ∧ Below w.heap.size w w' := by
  obtain ⟨⟨y0, y1, y2, y3⟩, t, n⟩ := h
  have K := Lib.hid (right_any ⟨y0, y1, y2, y3⟩ t n)
  rw [hk] at K
  clear hk
  go_enter Try.func14, Try.ntmps14
  go_wp2_with fail
  refine (K.out _).mono ?_
  rintro e W1 ⟨rfl, B1⟩
  replace B1 := below_step ((Below.refl w.heap.size w).alloc (Nat.le_refl _) _) B1
  go_wp2_with fail
  go_ret
  exact ⟨rfl, B1⟩
theorem done_yes (h : Hs) (hk : h.ok = true) (hn : h.n < 9223372036854775808) (w : World) : Calls Try.prog 14 #[h.val] w fun e w' => e = .returned (.int .u64 (I h.fin)) ∧ Below w.heap.size w w' := by
  have k1 := Hs.ok_n hk; have k2 := Hs.ok_t hk
  obtain ⟨⟨y0, y1, y2, y3⟩, t, n⟩ := h
  simp only at k1 k2 hn
  obtain ⟨n, rfl⟩ := Int.eq_ofNat_of_zero_le k1
  have K := Lib.hid (right_any ⟨y0, y1, y2, y3⟩ t n)
  rw [hk] at K
  have KF := Lib.hid (finish_any ⟨y0, y1, y2, y3⟩ t (by omega) n (by omega))
  have KO := Lib.hid (fourOf_any ⟨y0, y1, y2, y3⟩)
  obtain ⟨H, hH⟩ : ∃ x, Hid (x = finish ⟨y0, y1, y2, y3⟩ (lastn (L t) n)) := ⟨_, Lib.hid rfl⟩
  rw [← hH.out] at KF
  have E : Hid (Hs.fin ⟨⟨y0, y1, y2, y3⟩, t, n⟩ = H) := hH.out.symm
  rw [E.out]
  clear hk k1 k2 hn
  go_enter Try.func14, Try.ntmps14
  go_wp2_with fail
  refine (K.out _).mono ?_
  rintro e W1 ⟨rfl, B1⟩
  have M := (One.new w (Hs.cells ⟨⟨y0, y1, y2, y3⟩, t, n⟩) 31).next B1
  clear B1
  obtain ⟨g, hg⟩ : ∃ g, g = w.heap.size := ⟨_, rfl⟩
  rw [← hg] at M
  rw [← hg]
  clear hg
  go_upto_region 3 with fail
  change One w g #[.int .u64 (I y0), .int .u64 (I y1), .int .u64 (I y2), .int .u64 (I y3), .string t, .int .i64 (n : Int)] _ at M
  obtain ⟨c0, c1, c2, c3, c4, c5⟩ := M.bg.six
  go_region_held3 (fun w' => w'.cell? ⟨g, 0, none⟩ = some (.int .u64 (I y0)) ∧ w'.cell? ⟨g, 1, none⟩ = some (.int .u64 (I y1)) ∧ w'.cell? ⟨g, 2, none⟩ = some (.int .u64 (I y2)) ∧ w'.cell? ⟨g, 3, none⟩ = some (.int .u64 (I y3)) ∧ w'.cell? ⟨g, 4, none⟩ = some (.string t) ∧ w'.cell? ⟨g, 5, none⟩ = some (.int .i64 (n : Int)))
    ((refine ⟨?_, ?_, ?_, ?_, ?_, ?_⟩ <;> (repeat (first | with_reducible exact c0 | with_reducible exact c1 | with_reducible exact c2 | with_reducible exact c3 | with_reducible exact c4 | with_reducible exact c5 | with_reducible refine keep_drew ?_ | with_reducible refine keep_cell (by assumption) ?_))))
    (first
      | (go_at_call 21; refine (KO.out _).mono ?_; rintro e z1 ⟨rfl, hz1⟩)
      | (go_at_call 17; refine (KF.out _).mono ?_; rintro e z2 ⟨rfl, hz2⟩))
  all_goals go_wp2_with fail
  go_ret
  exact ⟨rfl, below_step (below_step M.drew.bl hz1) hz2⟩
theorem write_no (h : Hs) (hk : h.ok = false) (s : ByteArray) (w : World) : Calls Try.prog 12 #[h.val, .string s] w fun e w' => e = .returned h.val ∧ Below w.heap.size w w' := by
  obtain ⟨⟨y0, y1, y2, y3⟩, t, n⟩ := h
  have K := Lib.hid (right_any ⟨y0, y1, y2, y3⟩ t n)
  rw [hk] at K
  clear hk
  go_enter Try.func12, Try.ntmps12
  go_wp2_with fail
  refine (K.out _).mono ?_
  rintro e W1 ⟨rfl, B1⟩
  have M := (Two.new w (Hs.cells ⟨⟨y0, y1, y2, y3⟩, t, n⟩) #[.int .u64 0, .int .u64 0, .int .u64 0, .int .u64 0, .string ⟨#[]⟩, .int .i64 0] 31 31).next B1
  clear B1
  obtain ⟨g, hg⟩ : ∃ g, g = w.heap.size := ⟨_, rfl⟩
  obtain ⟨r, hr⟩ : ∃ r, r = g + 1 := ⟨_, rfl⟩
  rw [← hg, ← hr] at M
  rw [← hg, ← hr]
  clear hg hr
  have c0 := M.bg.cell (i := 0) rfl; have c1 := M.bg.cell (i := 1) rfl; have c2 := M.bg.cell (i := 2) rfl; have c3 := M.bg.cell (i := 3) rfl; have c4 := M.bg.cell (i := 4) rfl; have c5 := M.bg.cell (i := 5) rfl
  have k0 := M.br.cell (i := 0) rfl; have k1 := M.br.cell (i := 1) rfl; have k2 := M.br.cell (i := 2) rfl; have k3 := M.br.cell (i := 3) rfl; have k4 := M.br.cell (i := 4) rfl; have k5 := M.br.cell (i := 5) rfl
  have m0 := M.br.melt 0; have m1 := M.br.melt 1; have m2 := M.br.melt 2; have m3 := M.br.melt 3; have m4 := M.br.melt 4; have m5 := M.br.melt 5
  go_wp2_with fail
  clear c0 c1 c2 c3 c4 c5 k0 k1 k2 k3 k4 k5 m0 m1 m2 m3 m4 m5
  replace M := M.put6 (.int .u64 (I y0)) (.int .u64 (I y1)) (.int .u64 (I y2)) (.int .u64 (I y3)) (.string t) (.int .i64 n)
  generalize (((((W1.setCell ⟨r, 0, none⟩ (.int .u64 (I y0))).setCell ⟨r, 1, none⟩ (.int .u64 (I y1))).setCell ⟨r, 2, none⟩ (.int .u64 (I y2))).setCell ⟨r, 3, none⟩ (.int .u64 (I y3))).setCell ⟨r, 4, none⟩ (.string t)).setCell ⟨r, 5, none⟩ (.int .i64 n) = W3 at *
  have k0 := M.br.cell (i := 0) rfl; have k1 := M.br.cell (i := 1) rfl; have k2 := M.br.cell (i := 2) rfl; have k3 := M.br.cell (i := 3) rfl; have k4 := M.br.cell (i := 4) rfl; have k5 := M.br.cell (i := 5) rfl
  exact bodyPost_ret (v := Hs.val ⟨⟨y0, y1, y2, y3⟩, t, n⟩) (by simp [results, Try.results12, go_sem, k0, k1, k2, k3, k4, k5]) rfl ⟨rfl, M.bl⟩
end Go.Proofs.Ytiombblclgkigaa
