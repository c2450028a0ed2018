/- The walk of fill. -/
import Derived.Test.YthhphbaimpcjfaaDT
namespace Go.Proofs.Ythhphbaimpcjfaa
open Go.RowKit
set_option linter.unusedVariables false
set_option linter.unusedSimpArgs false
set_option maxHeartbeats 2000000
set_option maxRecDepth 100000

theorem turn_wl {w w' : World} {g : Nat} (t : Turn w w' g) {A : Option Addr} {n c : Nat} {W : List Nat} (l : Wl w A n c W) (hne : ∀ ad, A = some ad → 0 < n → ad.block ≠ g) : Wl w' A n c W :=
  ⟨l.len, l.cap, l.top, fun j hj => by
    obtain ⟨ad, e, hc⟩ := l.at_ j hj
    have h0 := l.len
    refine ⟨ad, e, ?_⟩
    rw [World.cell?_of_block (w := w) (t.block _ (by rw [block_add]; exact hne ad e (by omega)))]
    exact hc, l.lo⟩
/-- What is in the loop of fill. -/
structure Fil (w : World) (g : Nat) (zs ws : List Nat) (k i : Nat) (wr : World) : Prop where
  ss : ∃ ss, ss.length = i ∧ Lo ss ∧ val ss = wv ws % 2 ^ min (32 * i) k ∧ Row wr g (ss ++ zs.drop i)
  t : Turn w wr g
section
variable {w : World} {g : Nat} {zs ws : List Nat} {k i : Nat} {wr : World}
theorem Fil.drewN (h : Fil w g zs ws k i wr) (m : Nat) : Fil w g zs ws k i (wr.drewN m) := by
  obtain ⟨ss, a, b, c, r⟩ := h.ss
  exact ⟨⟨ss, a, b, c, r.drewN m⟩, h.t.drewN m⟩
theorem Fil.cell (h : Fil w g zs ws k i wr) (hi : i < zs.length) : wr.cell? ⟨g, i, none⟩ = some (lv zs[i]) ∧ wr.frozen? ⟨g, i, none⟩ = false := by
  obtain ⟨ss, a, b, c, r⟩ := h.ss
  refine ⟨r.cell' ?_, r.melt _⟩
  have := part_at zs ss 0 i (by omega) a
  simpa only [List.take_zero, List.nil_append, Nat.zero_add] using this
theorem Fil.step (h : Fil w g zs ws k i wr) (hi : i < zs.length) (hk : 32 * i < k) {x v : Nat} (hx : x = wv ws / 2 ^ (32 * i) % 4294967296) (hv : v = x &&& on (min 32 (k - 32 * i))) :
    Fil w g zs ws k (i + 1) (wr.setCell ⟨g, i, none⟩ (lv v)) := by
  obtain ⟨ss, hl, lo, hval, r⟩ := h.ss
  have hvl : v < 4294967296 := by
    have o := on32 (k - 32 * i)
    rw [hv, show (4294967296 : Nat) = 2 ^ 32 from by decide]
    exact Nat.and_lt_two_pow _ (by rw [show (2 : Nat) ^ 32 = 4294967296 from by decide]; exact o)
  refine ⟨⟨ss ++ [v], by simp [hl], lo.append (.cons hvl .nil), ?_, ?_⟩, h.t.setCell _ _⟩
  · rw [val_snoc, hl, hv]; exact mask_step hval hk hx
  · have := r.set_ i v hvl
    have e := set_part zs ss v 0 i (by omega) hl
    simp only [List.take_zero, List.nil_append, Nat.zero_add] at e
    rwa [e] at this
end
theorem fill_cast (i : Nat) : ((i : Int) * 32).tdiv 64 = ((i / 2 : Nat) : Int) := by
  have e : ((i : Int) * 32).tdiv 64 = ((i * 32 / 64 : Nat) : Int) := by rw [Int.ofNat_tdiv]; rfl
  rw [e]; congr 1; omega
theorem fill_rem (i : Nat) : ((i : Int) * 32).tmod 64 = ((i % 2 * 32 : Nat) : Int) := by
  have e : ((i : Int) * 32).tmod 64 = ((i * 32 % 64 : Nat) : Int) := by rw [Int.ofNat_tmod]; rfl
  rw [e]; congr 1; omega
theorem shr_cast (x k : Nat) : (x : Int) / 2 ^ k = ((x / 2 ^ k : Nat) : Int) := by
  have e : (2 : Int) ^ k = ((2 ^ k : Nat) : Int) := by rw [Int.natCast_pow]; rfl
  rw [e]; rfl
theorem fill_num (y m s : Nat) (hm : m < 4294967296) : Value.int .u32 (bits BinOp.and IntKind.u32 ((y : Int) / 2 ^ s % 4294967296) (m : Int)) = lv (y / 2 ^ s % 4294967296 &&& m) := by
  rw [shr_cast]
  generalize y / 2 ^ s = z
  have e : (z : Int) % 4294967296 = ((z % 4294967296 : Nat) : Int) := by omega
  rw [e, u32_and_nat _ m (Nat.mod_lt _ (by decide)) hm]
theorem fill_any {w : World} {g L : Nat} {zs ws : List Nat} {Am Aw : Option Addr} {cm nw cw k : Nat} (HR : Row w g zs) (hz : zs.length = L) (HM : Lim w Am L cm (mskl k L)) (NM : ∀ ad, Am = some ad → 0 < L → ad.block ≠ g)
    (HW : Wl w Aw nw cw ws) (NW : ∀ ad, Aw = some ad → 0 < nw → ad.block ≠ g) (hL : (L + 1) / 2 ≤ nw) (hk : L = (k + 31) / 32) (h64 : L ≤ 64) :
    Calls Try.prog 29 #[.slice (some ⟨g, 0, none⟩) L L, .slice Am L cm, .slice Aw nw cw] w fun e w' => e = .returned (.tuple #[]) ∧ ∃ ss, ss.length = L ∧ Lo ss ∧ val ss = wv ws % 2 ^ k ∧ Row w' g ss ∧ Turn w w' g := by
  have S0 : Fil w g zs ws k 0 w := ⟨⟨[], rfl, .nil, by simp [val_nil, Nat.mod_one], by simpa using HR⟩, Turn.refl _ _⟩
  have HM := Lib.hid HM; have HW := Lib.hid HW; have NM := Lib.hid NM; have NW := Lib.hid NW
  have HZ := Lib.hid hz; have HK := Lib.hid hk; have HL := Lib.hid hL
  have MA : Hid (∀ i, i < L → (mskl k L)[i]? = some (on (min 32 (k - 32 * i)))) := fun i hi => by
    rw [List.getElem?_eq_getElem (by rw [mskl_len]; exact hi), mskl_at k L i hi]
  have hnw : (nw : Int) ≤ 9223372036854775807 := by have := HW.out.cap; have := HW.out.top; omega
  clear HR hz hk hL
  go_enter Try.func29, Try.ntmps29
  go_wp2_with fail
  go_loopg [11] L (fun q s11 wr => ∃ i, i + q = L ∧ s11 = .int .i64 (i : Int) ∧ Fil w g zs ws k i wr)
  case atStart => exact ⟨0, by omega, rfl, S0⟩
  case round =>
    clear S0
    obtain ⟨i, hq, rfl, S⟩ := hrel
    have HQ := Lib.hid hq
    by_cases lt : i < L
    · have il : (i : Int) < L := by omega
      have il0 : (0 : Int) ≤ i := by omega
      have hw2 : i / 2 < nw := by have := HL.out; omega
      have il2 : ((i / 2 : Nat) : Int) < nw := by omega
      have il3 : (0 : Int) ≤ ((i / 2 : Nat) : Int) := by omega
      have E1 := fill_cast i
      have E2 := fill_rem i
      obtain ⟨ad, rfl, c1⟩ := (turn_lim S.t HM.out NM.out).at_ i (by rw [mskl_len]; exact lt)
      obtain ⟨ad2, rfl, c2⟩ := (turn_wl S.t HW.out NW.out).at_ (i / 2) (by rw [HW.out.len]; exact hw2)
      obtain ⟨c3, f3⟩ := S.cell (by rw [HZ.out]; exact lt)
      have bx := HW.out.lo.at_ (i / 2) (by rw [HW.out.len]; exact hw2)
      have em : (mskl k L)[i]'(by rw [mskl_len]; exact lt) = on (min 32 (k - 32 * i)) := mskl_at k L i lt
      rw [em] at c1
      have EX := Lib.hid (wv_limb HW.out.lo i (by rw [HW.out.len]; exact hw2))
      have ST : Hid (∀ x v : Nat, x = wv ws / 2 ^ (32 * i) % 4294967296 → v = x &&& on (min 32 (k - 32 * i)) → Fil w g zs ws k (i + 1) ((wr.setCell ⟨g, i, none⟩ (lv v)))) := fun x v hx hv => S.step (by rw [HZ.out]; exact lt) (by have := HK.out; omega) hx hv
      have BM := on32 (k - 32 * i)
      generalize ws[i / 2]'(by rw [HW.out.len]; exact hw2) = y at *
      generalize on (min 32 (k - 32 * i)) = m at *
      clear S hq
      go_wp2_with fail
      have EV := Lib.hid (fill_num y m (i % 2 * 32) BM)
      go_roundg (gk - 1)
      case measure => have := HQ.out; omega
      case rel =>
        go_light
        refine ⟨i + 1, by have := HQ.out; omega, by go_num, ?_⟩
        rw [EV.out]
        exact ST.out _ _ EX.out.symm rfl
    · obtain rfl : L = i := by omega
      have il : ¬ (L : Int) < L := by omega
      have FIN : Hid (∃ ss, ss.length = L ∧ Lo ss ∧ val ss = wv ws % 2 ^ k ∧ Row wr g ss ∧ Turn w wr g) := by
        obtain ⟨ss, a, b, c, r⟩ := S.ss
        rw [List.drop_of_length_le (by rw [HZ.out]; exact Nat.le_refl _), List.append_nil] at r
        rw [Nat.min_eq_right (by have := HK.out; omega)] at c
        exact ⟨ss, a, b, c, r, S.t⟩
      clear S hq lt
      go_wp2_with fail
      go_end0
      exact ⟨rfl, FIN.out⟩
end Go.Proofs.Ythhphbaimpcjfaa
