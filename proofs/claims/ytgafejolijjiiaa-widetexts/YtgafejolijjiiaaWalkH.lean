/- The walk of wide.Read. -/
import Derived.Test.YtgafejolijjiiaaWalkG
namespace Go.Proofs.Ytgafejolijjiiaa
open Go.RowKit
set_option linter.unusedSimpArgs false
set_option linter.unusedVariables false

/-- The number of a text of digits behind a number. -/
def runTo : List UInt8 → Nat → Option Nat
  | [], n => some n
  | c :: r, n => if digB n (c.toNat : Int) then runTo r (digN n (c.toNat : Int)) else none
/-- The number of a text. -/
@[irreducible] def readO (l : List UInt8) : Option Nat := if l = [] ∨ (l.head? = some 48 ∧ 1 < l.length) then none else runTo l 0
@[irreducible] def readN (l : List UInt8) : Nat := (readO l).getD 0
@[irreducible] def readB (l : List UInt8) : Bool := (readO l).isSome

theorem readN_some {l : List UInt8} {n : Nat} (h : readO l = some n) : readN l = n ∧ readB l = true := by unfold readN readB; rw [h]; exact ⟨rfl, rfl⟩
theorem readN_none {l : List UInt8} (h : readO l = none) : readN l = 0 ∧ readB l = false := by unfold readN readB; rw [h]; exact ⟨rfl, rfl⟩
theorem runTo_step {s : ByteArray} {k n : Nat} (h : k < s.size) : runTo (s.data.toList.drop k) n = if digB n (s[k].toNat : Int) then runTo (s.data.toList.drop (k + 1)) (digN n (s[k].toNat : Int)) else none := by
  have e : s.data.toList.drop k = s[k] :: s.data.toList.drop (k + 1) := by
    rw [List.drop_eq_getElem_cons (by simpa using h)]; rfl
  rw [e, runTo]

/-- Two blocks of the call's own that may be written: the result's, and the number's. -/
structure Rd (w : World) (n : Nat) (wx : World) : Prop where
  r0 : wx.cell? ⟨w.heap.size, 0, none⟩ = some (.int .u64 0)
  r1 : wx.cell? ⟨w.heap.size, 1, none⟩ = some (.int .u64 0)
  n0 : wx.cell? ⟨w.heap.size + 1, 0, none⟩ = some (.int .u64 (hi n))
  n1 : wx.cell? ⟨w.heap.size + 1, 1, none⟩ = some (.int .u64 (lo n))
  f0 : wx.frozen? ⟨w.heap.size, 0, none⟩ = false
  f1 : wx.frozen? ⟨w.heap.size, 1, none⟩ = false
  g0 : wx.frozen? ⟨w.heap.size + 1, 0, none⟩ = false
  g1 : wx.frozen? ⟨w.heap.size + 1, 1, none⟩ = false
  sz : w.heap.size + 1 < wx.heap.size
  bl : Below w.heap.size w wx
theorem Rd.next {w : World} {n : Nat} {W w1 : World} (t : Rd w n W) (hb : Below W.heap.size W w1) : Rd w n w1 :=
  ⟨keep_cell hb t.r0, keep_cell hb t.r1, keep_cell hb t.n0, keep_cell hb t.n1, keep_melt hb t.r0 t.f0, keep_melt hb t.r1 t.f1, keep_melt hb t.n0 t.g0, keep_melt hb t.n1 t.g1, Nat.lt_of_lt_of_le t.sz hb.size, t.bl.trans (hb.mono (by have := t.sz; omega))⟩
theorem Rd.start (w : World) : Rd w 0 ((w.alloc (.cells #[.int .u64 0, .int .u64 0] 24)).alloc (.cells #[.int .u64 0, .int .u64 0] 24)) := by
  refine ⟨?_, ?_, ?_, ?_, ?_, ?_, ?_, ?_, ?_, two_bel _ _ _⟩ <;> simp [go_sem, World.cell?_alloc_past, hi_zero, lo_zero]
theorem Rd.drew {w : World} {n : Nat} {W : World} (t : Rd w n W) : Rd w n W.drew := ⟨t.r0, t.r1, t.n0, t.n1, t.f0, t.f1, t.g0, t.g1, t.sz, t.bl.drew⟩
theorem Rd.set {w : World} {n : Nat} {W : World} (t : Rd w n W) {p : Addr} (v : Value) (hp : w.heap.size + 1 < p.block) : Rd w n (W.setCell p v) :=
  ⟨keep_set t.r0 _ (by simp <;> omega), keep_set t.r1 _ (by simp <;> omega), keep_set t.n0 _ (by simp <;> omega), keep_set t.n1 _ (by simp <;> omega),
    (World.frozen?_setCell _ _ _ _).trans t.f0, (World.frozen?_setCell _ _ _ _).trans t.f1, (World.frozen?_setCell _ _ _ _).trans t.g0, (World.frozen?_setCell _ _ _ _).trans t.g1, by rw [World.size_setCell]; exact t.sz, t.bl.setCell (by omega) _⟩
theorem Rd.alloc {w : World} {n : Nat} {W : World} (t : Rd w n W) (o : Obj) : Rd w n (W.alloc o) := t.next ((Below.refl _ _).alloc (Nat.le_refl _) o)
theorem Rd.put {w : World} {n : Nat} {W : World} (t : Rd w n W) (m : Nat) : Rd w m ((W.setCell ⟨w.heap.size + 1, 0, none⟩ (.int .u64 (hi m))).setCell ⟨w.heap.size + 1, 1, none⟩ (.int .u64 (lo m))) := by
  have h0 := t.n0; have h1 := t.n1
  refine ⟨keep_set (keep_set t.r0 _ (by simp)) _ (by simp), keep_set (keep_set t.r1 _ (by simp)) _ (by simp), by simp [go_sem, h0, h1], by simp [go_sem, h0, h1], ?_, ?_, ?_, ?_, ?_, (t.bl.setCell (by simp) _).setCell (by simp) _⟩
  · rw [World.frozen?_setCell, World.frozen?_setCell]; exact t.f0
  · rw [World.frozen?_setCell, World.frozen?_setCell]; exact t.f1
  · rw [World.frozen?_setCell, World.frozen?_setCell]; exact t.g0
  · rw [World.frozen?_setCell, World.frozen?_setCell]; exact t.g1
  · rw [World.size_setCell, World.size_setCell]; exact t.sz

theorem toList_empty (s : ByteArray) : s.toList.isEmpty = s.data.toList.isEmpty := by rw [ByteArray.toList_eq]

set_option maxHeartbeats 1000000 in
theorem read_empty (s : ByteArray) (h : s.toList = []) (w : World) : Calls Try.prog 24 #[.string s] w fun e w' => e = .returned (.tuple #[U 0, .bool false]) ∧ Below w.heap.size w w' := by
  go_enter Try.func24, Try.ntmps24
  go_wp2_with fail
  exact bodyPost_ret (v := .tuple #[U 0, .bool false]) (by simp [results, Try.results24, go_sem, hi_zero, lo_zero]) rfl ⟨rfl, (Below.refl _ _).alloc (Nat.le_refl _) _⟩

set_option maxHeartbeats 1000000 in
theorem read_nought (s : ByteArray) (h : s.toList.isEmpty = false) (h' : ¬ s.toList = []) (hz : 0 < s.size) (h0 : (s[0].toNat : Int) = 48) (h1 : 1 < (s.size : Int)) (hs : s.size ≤ maxLen) (w : World) : Calls Try.prog 24 #[.string s] w fun e w' => e = .returned (.tuple #[U 0, .bool false]) ∧ Below w.heap.size w w' := by
  unfold maxLen at hs
  go_enter Try.func24, Try.ntmps24
  go_wp2_with fail
  exact bodyPost_ret (v := .tuple #[U 0, .bool false]) (by simp [results, Try.results24, go_sem, hi_zero, lo_zero]) rfl ⟨rfl, (Below.refl _ _).alloc (Nat.le_refl _) _⟩

/-- At a round's head. -/
def ReadRel (s : ByteArray) (w : World) (i : Value) (wr : World) (g : Nat) : Prop := ∃ k n : Nat, k + g = s.size ∧ i = .int .i64 (k : Int) ∧ Fits n ∧ runTo s.data.toList 0 = runTo (s.data.toList.drop k) n ∧ Rd w n wr

set_option maxHeartbeats 2000000 in
set_option maxRecDepth 100000 in
theorem read_loop (s : ByteArray) (h : s.toList.isEmpty = false) (h' : ¬ s.toList = []) (hz : 0 < s.size) (h0 : (s[0].toNat : Int) = 48 ∧ ¬ 1 < (s.size : Int) ∨ ¬ (s[0].toNat : Int) = 48) (hs : s.size ≤ maxLen) (w : World) :
    Calls Try.prog 24 #[.string s] w fun e w' => e = .returned (.tuple #[U ((runTo s.data.toList 0).getD 0), .bool (runTo s.data.toList 0).isSome]) ∧ Below w.heap.size w w' := by
  unfold maxLen at hs
  obtain ⟨R, hR⟩ : ∃ R, runTo s.data.toList 0 = R := ⟨_, rfl⟩
  rw [hR]
  have HR := Lib.hid hR
  clear hR
  go_enter Try.func24, Try.ntmps24
  go_upto_region 1 with fail
  go_cut [19] (fun s19 wx => s19 = .bool false ∧ wx = w.alloc (.cells #[.int .u64 0, .int .u64 0] 24))
  case first =>
    rcases h0 with ⟨h0, h1⟩ | h0
    all_goals
      go_wp2_with fail
      go_meet
      exact ⟨rfl, rfl⟩
  case rest =>
    obtain ⟨rfl, rfl⟩ := hcut
    go_wp2_with fail
    go_loopg [23, 5, 6, 7] s.size (fun g i _ _ _ wr => ReadRel s w i wr g)
    case atStart => exact ⟨0, 0, by omega, rfl, by unfold Fits; decide, rfl, Rd.start w⟩
    case round =>
      obtain ⟨k, n, hk, rfl, hn, hrun, T⟩ := hrel
      have HN := Lib.hid hn; have HK := Lib.hid hk; have HRun := Lib.hid hrun
      clear hn hrun
      have n0 := T.n0; have n1 := T.n1; have r0 := T.r0; have r1 := T.r1; have f0 := T.f0; have f1 := T.f1; have g0 := T.g0; have g1 := T.g1; have sz := T.sz
      by_cases lt : k < s.size
      · have lt' : (k : Int) < (s.size : Int) := by omega
        have st := Lib.hid (runTo_step (n := n) lt)
        clear hk
        go_upto_region 7 with fail
        go_cut [6, 7] (fun s6 s7 wx => ∃ o, s6 = .pointer (some ⟨o, 0, none⟩) ∧ s7 = .bool (digB n (s[k].toNat : Int)) ∧ wx.cell? ⟨o, 0, none⟩ = some (.int .u64 (hi (digN n (s[k].toNat : Int)))) ∧ wx.cell? ⟨o, 1, none⟩ = some (.int .u64 (lo (digN n (s[k].toNat : Int)))) ∧ Rd w n wx)
        case first =>
          go_region_held3 (fun w' => w'.cell? ⟨w.heap.size + 1, 0, none⟩ = some (.int .u64 (hi n)) ∧ w'.cell? ⟨w.heap.size + 1, 1, none⟩ = some (.int .u64 (lo n)))
            ((refine ⟨?_, ?_⟩ <;> (repeat (first | with_reducible exact n0 | with_reducible exact n1 | with_reducible refine keep_alloc ?_ _ | with_reducible refine keep_drew ?_ | with_reducible refine keep_set ?_ _ (by simp <;> omega) | with_reducible refine keep_cell (by assumption) ?_))))
            (first
              | (go_at_call 38; refine (digit_any n HN.out _ _).mono ?_; rintro e w2 ⟨rfl, hb2⟩; obtain ⟨hc2, hf2⟩ := bcell hb2; have z2 := hb2.size; (try simp only [World.size_alloc, World.size_drew, Nat.add_one_le_iff] at z2)))
          all_goals go_wp2_with fail
          all_goals go_meet
          all_goals go_light
          all_goals refine ⟨_, rfl, rfl, ?_, ?_, ?_⟩
          all_goals first
            | (simp [go_sem]; done)
            | (simp [go_sem, hc2, z2]; done)
            | (repeat (first | with_reducible exact T | with_reducible refine Rd.alloc ?_ _ | with_reducible refine Rd.set ?_ _ (by simp only []; omega) | with_reducible refine Rd.drew ?_ | with_reducible refine Rd.next ?_ (by assumption)))
        case rest =>
          obtain ⟨o, rfl, rfl, o0, o1, T2⟩ := hcut
          clear n0 n1 r0 r1 f0 f1 g0 g1 sz T
          have n0 := T2.n0; have n1 := T2.n1; have r0 := T2.r0; have r1 := T2.r1; have f0 := T2.f0; have f1 := T2.f1; have g0 := T2.g0; have g1 := T2.g1; have sz := T2.sz
          have FD := Lib.hid (fits_digN n (s[k].toNat : Int))
          by_cases d : digB n (s[k].toNat : Int) = true
          · have st2 : Hid (runTo s.data.toList 0 = runTo (s.data.toList.drop (k + 1)) (digN n (s[k].toNat : Int))) := by
              unfold Hid; rw [HRun.out, st.out, if_pos d]
            clear st HRun
            go_wp2_with fail
            go_roundg (gk - 1)
            case measure => have := HK.out; omega
            case rel =>
              go_light
              exact ⟨k + 1, _, by have := HK.out; omega, by go_num, FD.out, st2.out, T2.put _⟩
          · have d' : digB n (s[k].toNat : Int) = false := by simpa using d
            have E1 : Hid (R = none) := by unfold Hid; rw [← HR.out, HRun.out, st.out, if_neg d]
            clear st HRun d
            go_wp2_with fail
            go_light
            exact bodyPost_ret (v := .tuple #[U 0, .bool false]) (by simp [results, Try.results24, go_sem, hi_zero, lo_zero, r0, r1]) rfl ⟨by rw [E1.out]; rfl, (T2.bl.setCell (by simp only []; omega) _).setCell (by simp only []; omega) _⟩
      · have e : k = s.size := by omega
        have E1 : Hid (R = some n) := by unfold Hid; rw [← HR.out, HRun.out, List.drop_eq_nil_of_le (by simp [e])]; rfl
        have lt' : ¬ (k : Int) < (s.size : Int) := by omega
        clear e hk
        go_wp2_with fail
        go_light
        exact bodyPost_ret (v := .tuple #[U n, .bool true]) (by simp [results, Try.results24, go_sem, r0, r1]) rfl ⟨by rw [E1.out]; rfl, (T.bl.setCell (by simp only []; omega) _).setCell (by simp only []; omega) _⟩

/-- wide.Read. -/
theorem read_any (s : ByteArray) (hs : s.size ≤ maxLen) (w : World) : Calls Try.prog 24 #[.string s] w fun e w' => e = .returned (.tuple #[U (readN s.data.toList), .bool (readB s.data.toList)]) ∧ Below w.heap.size w w' := by
  have el : s.toList = s.data.toList := ByteArray.toList_eq s
  by_cases h : s.toList = []
  · have e : readO s.data.toList = none := by unfold readO; rw [if_pos (Or.inl (by rw [← el]; exact h))]
    obtain ⟨e1, e2⟩ := readN_none e
    rw [e1, e2]
    exact read_empty s h w
  · have hz : 0 < s.size := by
      have h1 : s.data.toList ≠ [] := by rw [← el]; exact h
      have h2 : s.data.toList.length = s.size := by simp
      have := List.length_pos_iff.2 h1
      omega
    have he : s.toList.isEmpty = false := by simpa using h
    have hd : s.data.toList.head? = some s[0] := by
      rw [List.head?_eq_getElem?, List.getElem?_eq_getElem (by simpa using hz)]; rfl
    have hl : s.data.toList.length = s.size := by simp
    by_cases h0 : (s[0].toNat : Int) = 48
    · have h0' : s[0] = 48 := UInt8.toNat_inj.1 (by have : (48 : UInt8).toNat = 48 := rfl; omega)
      by_cases h1 : 1 < (s.size : Int)
      · have e : readO s.data.toList = none := by unfold readO; rw [if_pos (Or.inr ⟨by rw [hd, h0'], by omega⟩)]
        obtain ⟨e1, e2⟩ := readN_none e
        rw [e1, e2]
        exact read_nought s he h hz h0 h1 hs w
      · have e : readO s.data.toList = runTo s.data.toList 0 := by
          unfold readO; rw [if_neg (fun c => c.elim (fun c => h (by rw [el]; exact c)) (fun c => by omega))]
        have e1 : readN s.data.toList = (runTo s.data.toList 0).getD 0 := by unfold readN; rw [e]
        have e2 : readB s.data.toList = (runTo s.data.toList 0).isSome := by unfold readB; rw [e]
        rw [e1, e2]
        exact read_loop s he h hz (Or.inl ⟨h0, h1⟩) hs w
    · have e : readO s.data.toList = runTo s.data.toList 0 := by
        unfold readO; rw [if_neg (fun c => c.elim (fun c => h (by rw [el]; exact c)) (fun c => h0 (by rw [hd] at c; have := Option.some.inj c.1; rw [this]; rfl)))]
      have e1 : readN s.data.toList = (runTo s.data.toList 0).getD 0 := by unfold readN; rw [e]
      have e2 : readB s.data.toList = (runTo s.data.toList 0).isSome := by unfold readB; rw [e]
      rw [e1, e2]
      exact read_loop s he h hz (Or.inr h0) hs w
end Go.Proofs.Ytgafejolijjiiaa
