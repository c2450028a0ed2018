/- The walks of Right, trim, Cmp, fitting. -/
import Derived.Test.YthhphbaimpcjfaaMem
import Derived.Test.YthhphbaimpcjfaaNumB
namespace Go.Proofs.Ythhphbaimpcjfaa
open Go.RowKit

set_option maxRecDepth 100000 in
theorem right_yes {A : Option Addr} {n c a : Nat} {w : World} (h : Lim w A n c (limbs a)) (hm : ln a ≤ 64) : Calls Try.prog 26 #[.slice A n c] w fun e w' => e = .returned (.bool true) ∧ w = w' := by
  have hl := h.len
  rw [limbs_length] at hl
  by_cases hz : n = 0
  · subst hz
    clear h hl hm
    go_enter Try.func26, Try.ntmps26
    go_wp2
    go_ret
    exact ⟨rfl, rfl⟩
  · obtain ⟨ad, rfl⟩ := h.some_ (by omega)
    have hc := h.cell (n - 1) (by rw [limbs_length]; omega)
    have hx := last_ne_zero (a := a) (k := n - 1) (by rw [limbs_length]; omega)
    generalize (limbs a)[n - 1]'(by rw [limbs_length]; omega) = x at *
    have h1 : ((n : Int) == 0) = false := by simpa using hz
    have h2 : ((x : Int) != 0) = true := by simp; omega
    have h3 : (n : Int) ≤ 64 := by omega
    clear hl h hm hx
    go_enter Try.func26, Try.ntmps26
    go_wp2
    go_ret
    exact ⟨rfl, rfl⟩
set_option maxRecDepth 100000 in
theorem right_no {A : Option Addr} {n c : Nat} {xs : List Nat} {w : World} (h : Lim w A n c xs) (hm : ¬ Nt xs) : Calls Try.prog 26 #[.slice A n c] w fun e w' => e = .returned (.bool false) ∧ w = w' := by
  have hl := h.len
  have hz : n ≠ 0 := by
    rintro rfl
    have e := List.eq_nil_of_length_eq_zero hl
    subst e
    exact hm ⟨by simp, fun hn => absurd rfl hn⟩
  have h1 : ((n : Int) == 0) = false := by simpa using hz
  by_cases k : n ≤ 64
  · obtain ⟨j, ej, e0⟩ := Nt.no hm (by omega)
    obtain ⟨ad, rfl⟩ := h.some_ (by omega)
    have hc := h.cell (n - 1) (by omega)
    have ejn : n - 1 = j := by omega
    have e0' : xs[n - 1]'(by omega) = 0 := by
      have := (List.getElem?_eq_some_iff.1 e0).2
      simpa only [ejn] using this
    rw [e0'] at hc
    have h3 : (n : Int) ≤ 64 := by omega
    clear hl h hm e0 e0' ejn ej
    go_enter Try.func26, Try.ntmps26
    go_wp2
    go_ret
    exact ⟨rfl, rfl⟩
  · have h3 : ¬ (n : Int) ≤ 64 := by omega
    clear hl h hm
    go_enter Try.func26, Try.ntmps26
    go_wp2
    go_ret
    exact ⟨rfl, rfl⟩

theorem getLast_ne {xs : List Nat} {x : Nat} (h : xs[xs.length - 1]? = some x) (hx : x ≠ 0) : ∀ hn : xs ≠ [], xs.getLast hn ≠ 0 := by
  intro hn
  rw [List.getLast_eq_getElem]
  have := (List.getElem?_eq_some_iff.1 h).2
  rw [this]; exact hx

/-- A slice of the same limbs, there or nowhere. -/
def RetA (A : Option Addr) (xs : List Nat) (w : World) (e : Ending) (w' : World) : Prop := ∃ A' n' c', e = .returned (.slice A' n' c') ∧ Lim w A' n' c' (limbs (val xs)) ∧ (∀ ad, A' = some ad → A = some ad) ∧ w = w'
set_option maxHeartbeats 1000000 in
set_option maxRecDepth 100000 in
theorem trim_at {A : Option Addr} {n c : Nat} {xs : List Nat} {w : World} (h : Lim w A n c xs) : Calls Try.prog 46 #[.slice A n c] w fun e w' => RetA A xs w e w' := by
  have H := Lib.hid h
  have hc := h.cap; have ht := h.top
  clear h
  go_enter Try.func46, Try.ntmps46
  go_wp2_with fail
  go_loopg [0] n (fun g s0 wr => g ≤ n ∧ s0 = .slice A g c ∧ Hid (val (xs.take g) = val xs) ∧ w = wr)
  case atStart => exact ⟨Nat.le_refl _, rfl, by unfold Hid; rw [List.take_of_length_le (by rw [H.out.len]; exact Nat.le_refl _)], rfl⟩
  case round =>
    obtain ⟨hg, rfl, hv, rfl⟩ := hrel
    have HT := Lib.hid (H.out.take hg)
    by_cases hz : gk = 0
    · subst hz
      have HV : Hid (limbs (val xs) = []) := by unfold Hid; rw [← hv.out]; simp [val_nil, limbs_zero]
      go_wp2_with fail
      go_ret
      exact ⟨none, 0, 0, rfl, by rw [HV.out]; exact Lim.none_ _ _ _ (by omega), (fun _ e => by cases e), rfl⟩
    · obtain ⟨k, rfl⟩ : ∃ k, gk = k + 1 := ⟨gk - 1, by omega⟩
      obtain ⟨ad, rfl⟩ := H.out.some_ (by omega)
      have hkx : k < xs.length := by rw [H.out.len]; omega
      have hcell := H.out.cell k hkx
      by_cases hx : xs[k] = 0
      · have HV : Hid (val (xs.take k) = val xs) := by
          unfold Hid; rw [← hv.out, val_take_succ xs k hkx, hx, Nat.mul_zero, Nat.add_zero]
        rw [hx] at hcell
        clear hx hv HT
        go_wp2_with fail
        go_roundg k
        case measure => omega
        case rel => exact ⟨by omega, rfl, HV, rfl⟩
      · have HV : Hid (limbs (val xs) = xs.take (k + 1)) := by
          unfold Hid
          rw [← hv.out]
          refine limbs_val (H.out.lo.take _) (getLast_ne (x := xs[k]) ?_ hx)
          rw [List.length_take, Nat.min_eq_left (by omega), Nat.add_sub_cancel, List.getElem?_take, if_pos (by omega), List.getElem?_eq_getElem hkx]
        generalize xs[k] = x at *
        have h2 : ((x : Int) == 0) = false := by simpa using hx
        clear hx hv
        go_wp2_with fail
        go_ret
        exact ⟨_, _, _, rfl, by rw [HV.out]; exact HT.out, (fun _ e => e), rfl⟩
theorem trim_any {A : Option Addr} {n c : Nat} {xs : List Nat} {w : World} (h : Lim w A n c xs) : Calls Try.prog 46 #[.slice A n c] w fun e w' => ∃ A' n' c', e = .returned (.slice A' n' c') ∧ Lim w A' n' c' (limbs (val xs)) ∧ w = w' :=
  (trim_at h).mono fun _ _ ⟨A', n', c', h1, h2, _, h4⟩ => ⟨A', n', c', h1, h2, h4⟩
end Go.Proofs.Ythhphbaimpcjfaa
