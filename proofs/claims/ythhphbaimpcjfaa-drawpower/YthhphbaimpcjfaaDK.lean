/- The walk of maskOf. -/
import Derived.Test.YthhphbaimpcjfaaDF
import Derived.Test.YthhphbaimpcjfaaWalkH
namespace Go.Proofs.Ythhphbaimpcjfaa
open Go.RowKit
set_option linter.unusedVariables false
set_option linter.unusedSimpArgs false
set_option maxHeartbeats 2000000
set_option maxRecDepth 100000

/-- What is in the loop of maskOf. -/
structure Msk (w : World) (g k L i : Nat) (wr : World) : Prop where
  r : Row wr g (mskl k i ++ (List.replicate L 0).drop i)
  t : Turn w wr g
theorem Msk.cell {w : World} {g k L i : Nat} {wr : World} (h : Msk w g k L i wr) (hi : i < L) : wr.cell? ⟨g, i, none⟩ = some (lv 0) ∧ wr.frozen? ⟨g, i, none⟩ = false := by
  refine ⟨h.r.cell' ?_, h.r.melt _⟩
  have := part_at (List.replicate L 0) (mskl k i) 0 i (by simp; omega) (mskl_len k i)
  simpa only [List.take_zero, List.nil_append, Nat.zero_add, List.getElem_replicate] using this
theorem Msk.step {w : World} {g k L i : Nat} {wr : World} (h : Msk w g k L i wr) (hi : i < L) : Msk w g k L (i + 1) (wr.setCell ⟨g, i, none⟩ (lv (on (min 32 (k - 32 * i))))) := by
  refine ⟨?_, h.t.setCell _ _⟩
  have := h.r.set_ i (on (min 32 (k - 32 * i))) (on32 _)
  have e := set_part (List.replicate L 0) (mskl k i) (on (min 32 (k - 32 * i))) 0 i (by simp; omega) (mskl_len k i)
  simp only [List.take_zero, List.nil_append, Nat.zero_add] at e
  rwa [e] at this
theorem min_cast (k i : Nat) (h : 32 * i ≤ k) : min (32 : Int) ((k : Int) - (i : Int) * 32) = ((min 32 (k - 32 * i) : Nat) : Int) := by omega
theorem limbs_len_one : ln 1 ≤ 64 := Nat.le_trans (ln_le (k := 1) (by rw [B_eq]; decide)) (by decide)
theorem maskOf_any {A : Option Addr} {n c d : Nat} {w : World} (h : Lim w A n c (limbs d)) (hd : d ≠ 0) (ld : ln d ≤ 64) :
    Calls Try.prog 27 #[.slice A n c] w fun e w' => ∃ g, e = .returned (.slice (some ⟨g, 0, none⟩) (ml d) (ml d)) ∧ w.heap.size ≤ g ∧ Row w' g (mskl (mb d) (ml d)) ∧ Below w.heap.size w w' := by
  have KO := Lib.hid (fun W => of_any 1 (by decide) W)
  have KS : Hid (∀ (W : World) A1 n1 c1, Below w.heap.size w W → Lim W A1 n1 c1 (limbs 1) → Calls Try.prog 35 #[.slice A n c, .slice A1 n1 c1] W fun e w' => RetE (d - 1) 0 W e w') := fun W A1 n1 c1 hb h1 => sub_any (h.next hb) h1 ld limbs_len_one (by omega)
  have l1 : ln (d - 1) ≤ 64 := Nat.le_trans (ln_mono (by omega)) ld
  have KB : Hid (∀ (W : World) A1 n1 c1, Lim W A1 n1 c1 (limbs (d - 1)) → Calls Try.prog 37 #[.slice A1 n1 c1] W fun e w' => e = .returned (.int .i64 (mb d)) ∧ W = w') := fun W A1 n1 c1 h1 => bits_any h1 l1
  have hml := ml_le ld
  have km : mb d ≤ 2048 := by unfold ml at hml; omega
  have em : ((mb d : Int) + 32 - 1) / 32 = (ml d : Int) := by unfold ml; omega
  have HML : Hid (ml d = (mb d + 31) / 32) := rfl
  have hmk := make_u32 (ml d) (by omega)
  generalize ml d = L at *
  generalize mb d = k at *
  clear h hd ld l1
  go_enter Try.func27, Try.ntmps27
  go_wp2_with fail
  refine (KO.out _).mono ?_
  rintro e w1 ⟨A1, n1, c1, rfl, L1, B1⟩
  go_wp2_with fail
  refine (KS.out _ _ _ _ B1 L1).mono ?_
  rintro e w2 ⟨A2, n2, c2, rfl, L2, B2⟩
  replace B1 := below_step B1 B2
  clear B2 L1
  go_wp2_with fail
  refine (KB.out _ _ _ _ L2).mono ?_
  rintro e w3 ⟨rfl, rfl⟩
  clear L2
  have R0 := Row.zeros w2 L
  have BA : Below w.heap.size w (w2.alloc (zrow L)) := B1.alloc B1.size _
  have GB : w.heap.size ≤ w2.heap.size := B1.size
  go_wp2_with fail
  generalize w2.alloc (zrow L) = wa at *
  generalize w2.heap.size = g at *
  have S0 : Msk wa g k L 0 wa := ⟨by simpa [mskl] using R0, Turn.refl _ _⟩
  have KN : Hid (∀ (W : World) (m : Nat), m ≤ 64 → Calls Try.prog 20 #[.int .i64 (m : Int)] W fun e w' => e = .returned (wd (on m)) ∧ W = w') := fun W m hm => ones_any m hm W
  have BA := Lib.hid BA; have GB := Lib.hid GB
  clear B1 R0 hmk em
  go_loopg [23] L (fun q s23 wr => ∃ i, i + q = L ∧ s23 = .int .i64 (i : Int) ∧ Msk wa g k L i wr)
  case atStart => exact ⟨0, by omega, rfl, S0⟩
  case round =>
    clear S0
    obtain ⟨i, hq, rfl, S⟩ := hrel
    have HQ := Lib.hid hq
    by_cases lt : i < L
    · have il : (i : Int) < L := by omega
      have il0 : (0 : Int) ≤ i := by omega
      have hik : 32 * i ≤ k := by have := HML.out; omega
      have EM := min_cast k i hik
      obtain ⟨c3, f3⟩ := S.cell lt
      have ST := Lib.hid (S.step lt)
      have BM := on32 (k - 32 * i)
      have MB : min 32 (k - 32 * i) ≤ 64 := by omega
      have KM := Lib.hid (fun W => KN.out W _ MB)
      generalize min 32 (k - 32 * i) = m at *
      generalize on m = o at *
      clear S hq MB
      go_wp2_with fail
      refine (KM.out _).mono ?_
      rintro e w3 ⟨rfl, rfl⟩
      go_wp2_with fail
      go_roundg (gk - 1)
      case measure => have := HQ.out; omega
      case rel =>
        go_light
        refine ⟨i + 1, by have := HQ.out; omega, by go_num, ?_⟩
        exact ST.out
    · obtain rfl : L = i := by omega
      have il : ¬ (L : Int) < L := by omega
      have RR := S.r
      rw [List.drop_of_length_le (by simp), List.append_nil] at RR
      have RR := Lib.hid RR
      have TT := Lib.hid (BA.out.trans (S.t.below GB.out))
      clear S hq lt
      go_wp2_with fail
      go_ret
      exact ⟨g, rfl, GB.out, RR.out, TT.out⟩
end Go.Proofs.Ythhphbaimpcjfaa
