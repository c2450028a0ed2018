/- Plain: what comes down of a heap stands in order, from the last one on, and none is lost; without of what is there. The program's Down. The program's Push; what the laws ask, shown. What the laws ask of the six calls, shown of the code. Blocks of a call's own, as many as there are. The fixed answer of heap's statements. A slice that reads as acts. Arguments opened; the rows' last step. -/
import Derived.Test.YtnkhgkpijfohkaaJ07
import Derived.Test.YtnkhgkpijfohkaaJ08
import Derived.Laws.MakeOwn
import Derived.Deep.RegionLaw
import Derived.Laws.AppendOwn
import Derived.Test.YtnkhgkpijfohkaaJ01
import Derived.ProofKit
import Derived.OpenShut
import Derived.Carry
import Derived.Lay
import Derived.ChangeMaps5
import Derived.Lib.SmallJoins
import Derived.Deep.SlicePairs
import Derived.Deep.Strs
import Derived.Laws.Cover2
namespace Go.Proofs.Ytnkhgkpijfohkaa
set_option linter.unusedVariables false
theorem downN_len : ∀ (n : Nat) (l : List It), (downN n l).length = n
  | 0, _ => rfl
  | n + 1, l => by rw [downN, List.length_cons, downN_len n]
theorem downN_perm : ∀ (n : Nat) (l : List It), l.length = n → (downN n l).Perm l
  | 0, l, h => by rw [List.eq_nil_of_length_eq_zero h]; exact .refl _
  | n + 1, l, h => by
    rw [downN]
    exact (List.Perm.cons _ (downN_perm n (popL l) (by rw [popL_len (by omega)]; omega))).trans (popL_perm (by omega))
/-- Each comes down no farther behind than the one ahead of it. -/
theorem downN_desc : ∀ (n : Nat) (l : List It), l.length = n → rightB l = true → (downN n l).Pairwise fun a b => cmpI b a ≤ 0
  | 0, _, _, _ => .nil
  | n + 1, l, h, r => by
    rw [downN]
    have pl : (popL l).length = n := by rw [popL_len (by omega)]; omega
    refine List.pairwise_cons.2 ⟨fun b hb => ?_, downN_desc n (popL l) pl (rightB_pop r (by omega))⟩
    have hm : b ∈ l := (popL_perm (by omega)).mem_iff.1 (.tail _ ((downN_perm n (popL l) pl).mem_iff.1 hb))
    obtain ⟨k, hk, e⟩ := List.mem_iff_getElem.1 hm
    have := (rightB_iff.1 r).2.top (rightB_may r) k hk
    rw [nth_eq hk, e] at this
    exact this
theorem downA_right {l : List It} (r : rightB l = true) : downA l = downN l.length l := by unfold downA; rw [r, if_neg (by decide)]
/-- Without one that is there: one fewer, the others stay. -/
theorem without_perm : ∀ {l : List It} {x : It}, x ∈ l → l.Perm (x :: without l x)
  | [], _, h => absurd h (by simp)
  | y :: l, x, h => by
    rw [without]
    split
    · rename_i e
      rw [eqI_iff.1 e]
    · rename_i e
      have : x ∈ l := by
        rcases List.mem_cons.1 h with rfl | h
        · exact absurd (eqI_iff.2 rfl) e
        · exact h
      exact (List.Perm.cons y (without_perm this)).trans (.swap _ _ _)
theorem without_len {l : List It} {x : It} (h : x ∈ l) : (without l x).length = l.length - 1 := by
  have := (without_perm h).length_eq
  rw [List.length_cons] at this
  omega
/-- What is left of both, behind the same item, is the same. -/
theorem without_rest {l d : List It} {x : It} (h : l.Perm (x :: d)) : (without l x).Perm d :=
  List.Perm.cons_inv ((without_perm (h.mem_iff.2 (.head _))).symm.trans h)
end Go.Proofs.Ytnkhgkpijfohkaa
namespace Go.Proofs.Ytnkhgkpijfohkaa
open Go.RowKit
set_option linter.unusedVariables false
set_option linter.unusedSimpArgs false
set_option maxHeartbeats 4000000
set_option maxRecDepth 100000
/-- So many items that are nothing yet. -/
theorem items_make (W : World) (n : Nat) (hn : n ≤ 100000) (k k' : IntKind) : ∃ W' : World, (Instr.makeSlice 22 (.int k (n : Int)) (.int k' (n : Int))).run Try.prog W = .ok (.slice (some ⟨W.heap.size, 0, none⟩) n n) W' ∧ Row3 W' ⟨W.heap.size, 0, none⟩ (List.replicate n itz) ∧ Below W.heap.size W W' := by
  have hi : (Try.prog.info? 25).map (fun i => (i.zero, i.size, i.bytes)) = some (some (.agg #[.string ⟨#[]⟩, .int .u64 0, .int .u64 0]), 3, 32) := by kernel_rfl
  cases hq : Try.prog.info? 25 with
  | none => simp [hq] at hi
  | some i =>
    obtain ⟨h1, h2, h3⟩ : i.zero = some (.agg #[.string ⟨#[]⟩, .int .u64 0, .int .u64 0]) ∧ i.size = 3 ∧ i.bytes = 32 := by simpa [hq] using hi
    have := run_make W 22 25 i _ Try.underlying22 hq h1 k k' (n : Int) (n : Int) (by omega) (by omega) (by rw [h3]; omega) (by omega)
    rw [Int.toNat_natCast, h2] at this
    refine ⟨_, this, ⟨⟨_, _, heap_alloc_new W _, fun j u hu => ?_⟩, rfl, fun x hx => ?_⟩, (Below.refl _ _).alloc (Nat.le_refl _) _⟩
    · obtain ⟨m, hm, h⟩ := icells_cell hu
      have hm2 : m < n := by simpa using hm
      rw [List.getElem_replicate] at h
      have e : (Value.agg #[.string ⟨#[]⟩, .int .u64 0, .int .u64 0]).cells = #[.string ⟨#[]⟩, .int .u64 0, .int .u64 0] := rfl
      rw [e]
      rcases h with ⟨rfl, rfl⟩ | ⟨rfl, rfl⟩ | ⟨rfl, rfl⟩
      · have q : m * 3 % 3 = 0 := by omega
        simp [madeCells, show m * 3 < n * 3 by omega, q]
      · have q : (m * 3 + 1) % 3 = 1 := by omega
        simp [madeCells, show m * 3 + 1 < n * 3 by omega, q]
      · have q : (m * 3 + 2) % 3 = 2 := by omega
        simp [madeCells, show m * 3 + 2 < n * 3 by omega, q]
    · have := List.eq_of_mem_replicate hx
      subst this
      exact ⟨by decide, by decide⟩
theorem Row3.tr {W W' : World} {ao bo : Addr} {s t : List It} (h : Row3 W bo s) (k : Tr ao t W W') (hne : bo.block ≠ ao.block) : Row3 W' bo s := by
  have l := h.lt
  obtain ⟨cs, ty, e, hc⟩ := h.own
  exact ⟨⟨cs, ty, (k.block _ l hne).trans e, hc⟩, h.el, h.fit⟩
theorem Row3.farPut {W : World} {ad p : Addr} {s : List It} (h : Row3 W ad s) (hp : ad.block ≠ p.block) (x : It) : Row3 (put3 W p x) ad s := by
  obtain ⟨cs, t, e, hc⟩ := h.own
  exact ⟨⟨cs, t, (block_put3 W x hp).trans e, hc⟩, h.el, h.fit⟩
/-- What is left: nothing, or a row of the call's own beside the block b. -/
def Left (B b : Nat) (wr : World) (v : Value) (m : Nat) (L : List It) : Prop := (v = .slice none 0 0 ∧ m = 0 ∧ L = []) ∨ ∃ ao cap, v = .slice (some ao) m cap ∧ Row3 wr ao L ∧ L.length = m ∧ m ≤ cap ∧ b ≠ ao.block ∧ B ≤ ao.block
/-- i are down. -/
def DownAt (w : World) (bo : Addr) (tgt : List It) (v : Value) (i m : Nat) (wr : World) : Prop := ∃ D L, D.length = i ∧ Left w.heap.size bo.block wr v m L ∧ D ++ downN m L = tgt ∧ Row3 wr bo (D ++ List.replicate m itz) ∧ Below w.heap.size w wr
theorem heapDown_any (KC : CmpOk) {A : Option Addr} {c : Nat} {l : List It} {w : World} (h : Lst w A c l) (hn : l.length ≤ 100000) : Calls Try.prog 26 #[.slice A l.length c] w fun e w' => ∃ B d, e = .returned (.slice B (downA l).length d) ∧ Lst w' B d (downA l) ∧ Below w.heap.size w w' := by
  have KR := Lib.hid (heapRight_any KC h.1 hn)
  have KN := Lib.hid (fun (W : World) (hb : Below w.heap.size w W) => cloneI_any (h.1.next hb) hn)
  obtain ⟨n, hln⟩ : ∃ n, n = l.length := ⟨_, rfl⟩
  have HL := Lib.hid hln
  rw [← hln] at hn KR KN ⊢
  have MK := Lib.hid (fun (W : World) (k k' : IntKind) => items_make W n hn k k')
  have KC := Lib.hid KC
  cases hr : rightB l
  · have e : Hid (downA l = []) := by unfold Hid downA; rw [if_pos hr]
    rw [hr] at KR
    clear h hr hln
    go_enter Try.func26, Try.ntmps26
    go_wp2_with fail
    refine KR.out.mono ?_
    rintro e' W1 ⟨rfl, B1⟩
    have BL := Lib.hid B1
    clear B1 KR
    go_wp2_with fail
    go_ret
    rw [e.out]
    exact ⟨none, 0, rfl, ⟨Its.none_ _ _ _ rfl (by decide), fun _ => rfl⟩, BL.out⟩
  · have e : Hid (downA l = downN n l) := by unfold Hid downA; rw [if_neg (by rw [hr]; decide), hln]
    rw [hr] at KR
    clear h hr hln
    obtain ⟨tgt, ht⟩ : ∃ tgt, tgt = downN n l := ⟨_, rfl⟩
    have TL : Hid (tgt.length = n) := by unfold Hid; rw [ht, downN_len]
    have HT := Lib.hid ht
    rw [← ht] at e
    rw [e.out]
    clear ht e
    go_enter Try.func26, Try.ntmps26
    go_wp2_with fail
    refine KR.out.mono ?_
    rintro e' W1 ⟨rfl, B1⟩
    have BL := Lib.hid B1
    clear B1 KR
    go_wp2_with fail
    refine (KN.out _ BL.out).mono ?_
    rintro e' W2 ⟨v, rfl, R, B1⟩
    have BL2 := Lib.hid (below_step BL.out B1)
    obtain ⟨W3, hmk, RB, B3⟩ := MK.out W2 .i64 .i64
    have DA : Hid (DownAt w ⟨W2.heap.size, 0, none⟩ tgt v 0 n W3) := by
      refine ⟨[], l, rfl, ?_, by rw [HT.out]; rfl, RB, below_step BL2.out B3⟩
      rcases R.row with ⟨rfl, rfl⟩ | ⟨go, cap, rfl, hgo, h1, h2, R3⟩
      · exact .inl ⟨rfl, by rw [HL.out]; rfl, rfl⟩
      · have lt := R3.lt
        exact .inr ⟨_, cap, by rw [HL.out], R3.next B3, HL.out.symm, by rw [HL.out]; exact h1, (by dsimp only at lt ⊢; omega), Nat.le_trans BL.out.size hgo⟩
    have HB : Hid (w.heap.size ≤ W2.heap.size) := BL2.out.size
    clear R B1 RB B3 KN BL BL2
    go_wp2_with fail
    clear hmk MK
    obtain ⟨bo, hbo⟩ : ∃ bo, bo = (⟨W2.heap.size, 0, none⟩ : Addr) := ⟨_, rfl⟩
    rw [← hbo] at DA ⊢
    have HBO : Hid (w.heap.size ≤ bo.block) := by unfold Hid; rw [hbo]; exact HB.out
    clear hbo HB HT
    go_loopg [3, 16] n (fun q s3 s16 wr => ∃ (i m : Nat) (v : Value), s16 = .int .i64 (i : Int) ∧ s3 = v ∧ i + m = n ∧ m ≤ q ∧ Hid (DownAt w bo tgt v i m wr))
    case atStart => exact ⟨0, n, v, rfl, rfl, by omega, Nat.le_refl _, DA⟩
    case round =>
      clear DA
      obtain ⟨i, m, v, rfl, rfl, hq, hm, DA⟩ := hrel
      have HQ := Lib.hid hq; have HM := Lib.hid hm
      by_cases lt : i < n
      · have i1 : (i : Int) < n := by omega
        have i0 : (0 : Int) ≤ i := by omega
        obtain ⟨m', hm'⟩ : ∃ m', m = m' + 1 := ⟨m - 1, by omega⟩
        obtain ⟨D, L, hD, hL, hE, RB, BB⟩ := DA.out
        rcases hL with ⟨-, h0, -⟩ | ⟨ao, cap, rfl, RA, hLl, hc, hne, hB⟩
        · omega
        · have KT := Lib.hid (takeFirst_any (c := cap) KC.out RA hLl hm' hc (by have := hn; omega))
          have HM' := Lib.hid hm'
          have HN := Lib.hid hne
          have SET : Hid ((D ++ List.replicate m itz).set i (nth L 0) = (D ++ [nth L 0]) ++ List.replicate m' itz) := by
            unfold Hid
            rw [hm', List.set_append_right _ _ (by omega), hD, Nat.sub_self, List.replicate_succ, List.set_cons_zero]; simp
          have DN : Hid ((D ++ [nth L 0]) ++ downN m' (popL L) = tgt) := by
            unfold Hid
            rw [← hE, hm', downN]; simp
          have FY : Hid ((nth L 0).Fit) := RA.ft (by omega)
          have LEN : Hid ((D ++ [nth L 0]).length = i + 1 ∧ (popL L).length = m' ∧ i < (D ++ List.replicate m itz).length ∧ m' ≤ cap ∧ w.heap.size ≤ ao.block) := by
            refine ⟨by rw [List.length_append, hD]; rfl, by rw [popL_len (by omega)]; omega, ?_, by omega, hB⟩
            rw [List.length_append, List.length_replicate]; omega
          have RB := Lib.hid RB
          have BB := Lib.hid BB
          generalize nth L 0 = y at *
          clear hq hm hm' DA RA hLl hc hD hE hB lt hne
          go_wp2_with fail
          refine KT.out.mono ?_
          rintro e' W4 ⟨rfl, T⟩
          have R4 := RB.out.tr T HN.out
          obtain ⟨f0, f1, f2⟩ := R4.melts (i * 3)
          obtain ⟨z0, z1, z2⟩ := R4.cell LEN.out.2.2.1
          obtain ⟨s1, s2⟩ := R4.store1 LEN.out.2.2.1 y
          have NX : Hid (DownAt w bo tgt (.slice (some ao) m' cap) (i + 1) m' (put3 W4 (bo.add (i * 3)) y)) := by
            refine ⟨D ++ [y], popL L, LEN.out.1, .inr ⟨ao, cap, rfl, T.row.farPut (by rw [blk_add R4.el]; exact Ne.symm HN.out) y, LEN.out.2.1, LEN.out.2.2.2.1, HN.out, LEN.out.2.2.2.2⟩, DN.out, ?_, ?_⟩
            · have := R4.put LEN.out.2.2.1 FY.out
              rw [SET.out] at this
              exact this
            · have b1 := BB.out.trans (T.below LEN.out.2.2.2.2 BB.out.size)
              exact b1.trans (((Tr.refl R4).put LEN.out.2.2.1 FY.out).below HBO.out b1.size)
          clear KT T R4 RB BB SET DN
          go_wp2_with fail
          unfold put3 at NX
          clear f0 f1 f2 z0 z1 z2 s1 s2
          go_roundg (gk - 1)
          case measure => have := HM.out; have := HM'.out; omega
          case rel =>
            go_light
            exact ⟨i + 1, m', _, by go_num, rfl, by have := HQ.out; have := HM'.out; omega, by have := HM.out; have := HM'.out; omega, NX⟩
      · obtain rfl : m = 0 := by omega
        obtain rfl : i = n := by omega
        have i1 : ¬ (i : Int) < i := by omega
        obtain ⟨D, L, hD, hL, hE, RB, BB⟩ := DA.out
        have E : Hid (D = tgt) := by unfold Hid; rw [← hE]; simp [downN]
        have RB : Hid (Row3 wr bo tgt) := by
          unfold Hid
          rw [← E.out]
          simpa using RB
        have BB := Lib.hid BB
        clear hq hm DA hD hL hE lt
        go_wp2_with fail
        go_ret
        have hlen := TL.out
        exact ⟨some bo, i, by rw [hlen]; rfl, ⟨RB.out.its rfl (by rw [hlen]; exact Nat.le_refl _) (by have := hn; omega), fun e => absurd e (by simp)⟩, BB.out⟩
end Go.Proofs.Ytnkhgkpijfohkaa
namespace Go.Proofs.Ytnkhgkpijfohkaa
open Go.RowKit
set_option linter.unusedVariables false
set_option linter.unusedSimpArgs false
set_option maxHeartbeats 4000000
set_option maxRecDepth 100000
/-- append, as one step of a region that draws. -/
theorem step_appI {ops : Array Oper} {o : Oper} {a : Act} {W : World} {K : Act → World → Prop} {Q : Exit → Act → World → Prop} {E : Prop} (hgd : o.guard = none) (s x : Operand)
    (ho : o.op = .call { callee := .builtin .append, args := #[s, x], argTypes := #[22, 22] }) {b : Nat} {v : Value} {l m : List It} (hs : a.eval s = v) (R : Rw b v l W) (hb : b ≤ W.heap.size)
    {ad : Addr} {n c : Nat} (hx : a.eval x = .slice (some ad) n c) (I : Its W (some ad) n c m) (small : l.length + m.length ≤ 1000000)
    (hK : ∀ v' W', Rw b v' (l ++ m) W' → Below b W W' → K (a.put o.dst v') W') : if Region.wanted o (yielded ops a.tmps) = true then Oper.wp Try.prog o a W K Q else E := by
  have hw : Region.wanted o (yielded ops a.tmps) = true := by simp [Region.wanted, hgd]
  rw [if_pos hw]
  have hi : (Try.prog.info? 25).map (fun i => (i.zero, i.size, i.bytes)) = some (some (.agg #[.string ⟨#[]⟩, .int .u64 0, .int .u64 0]), 3, 32) := by kernel_rfl
  cases hq : Try.prog.info? 25 with
  | none => simp [hq] at hi
  | some i =>
    obtain ⟨h1, h2, h3⟩ : i.zero = some (.agg #[.string ⟨#[]⟩, .int .u64 0, .int .u64 0]) ∧ i.size = 3 ∧ i.bytes = 32 := by simpa [hq] using hi
    have fit : ∀ y ∈ l ++ m, y.Fit := fun y hy => (List.mem_append.1 hy).elim (R.fit y) (I.fit y)
    have hl := I.len
    obtain ⟨v', W', hrun, r1, r2, _⟩ := run_append_own (P := Try.prog) W b 22 o.type 25 i _ 3 32 Try.underlying22 hq h1 h2 h3 rfl (by decide) v l.length (icells l) R.own ad n c (icells m) (by rw [icells_len, I.len]) (I.cells rfl) (fun u hu => icells_one hu)
      (by unfold maxLen; omega) (by omega) hb
    unfold Oper.wp
    simp [execOp, ho, resolve, invoke, builtin, hs, hx, hrun, Result.andThen]
    refine hK v' W' ⟨?_, fit⟩ ((Below.refl b W).grown r2 hb (fun k hk => (R.own.lt k hk).1))
    rw [List.length_append, hl, icells_app]; exact r1
theorem heapPush_any (KC : CmpOk) {A : Option Addr} {c : Nat} {l : List It} {w : World} (h : Lst w A c l) (hn : l.length ≤ 99999) (x : It) (fx : x.Fit) : Calls Try.prog 10 #[.slice A l.length c, itv x] w fun e w' => RetLE (pushA l x).1 (pushA l x).2 w e w' := by
  have KR := Lib.hid (fun (W : World) (hb : Below w.heap.size w W) => heapRight_any KC (h.1.next hb) (by omega))
  have KK := Lib.hid (fun W => rankCheck_any x W)
  have KN := Lib.hid (fun (W : World) (hb : Below w.heap.size w W) => cloneI_any (h.1.next hb) (by omega))
  have H := Lib.hid h
  have FX := Lib.hid fx
  obtain ⟨n, hln⟩ : ∃ n, n = l.length := ⟨_, rfl⟩
  have HL := Lib.hid hln
  obtain ⟨p, hp⟩ : ∃ p, p = pushA l x := ⟨_, rfl⟩
  rw [← hp]
  rw [← hln] at hn KR KN ⊢
  have PA : Hid (p = if rightB l = false then (l, 1) else if chk x ≠ 0 then (l, chk x) else (pushL l x, 0)) := by unfold Hid; rw [hp]; unfold pushA; rfl
  clear h fx hp hln
  have M := One.new w #[.string x.k, .int .u64 (x.u : Int), .int .u64 (x.w : Int)] 25
  obtain ⟨g, hg⟩ : ∃ g, w.heap.size = g := ⟨_, rfl⟩
  rw [hg] at M
  have OUT : Hid (∀ (z : Int) (W : World), p = (l, z) → Below w.heap.size w W → RetLE p.1 p.2 w (.returned (.tuple #[.slice A n c, .int .i64 z])) W) := by
    intro z W hp hb
    rw [hp]
    exact ⟨A, c, by rw [HL.out], H.out.next hb, hb⟩
  cases hr : rightB l
  · have e : Hid (p = (l, 1)) := by unfold Hid; rw [PA.out, if_pos hr]
    rw [hr] at KR
    clear hr PA
    obtain ⟨xk, xu, xw⟩ := x
    go_enter Try.func10, Try.ntmps10
    go_wp2_with fail
    refine (KR.out _ M.bl).mono ?_
    rintro e' W1 ⟨rfl, B1⟩
    have BL := Lib.hid (M.next B1).bl
    clear B1 KR
    go_wp2_with fail
    refine bodyPost_ret (v := .tuple #[.slice A n c, .int .i64 1]) (by simp [results, Try.results10, go_sem]) rfl ?_
    exact OUT.out _ _ e.out BL.out
  · rw [hr] at KR PA
    have PB : Hid (p = if chk x ≠ 0 then (l, chk x) else (pushL l x, 0)) := by unfold Hid; rw [PA.out, if_neg (by decide)]
    obtain ⟨cc, hcc⟩ : ∃ cc, cc = chk x := ⟨_, rfl⟩
    rw [← hcc] at PB KK
    clear hr PA hcc
    obtain ⟨xk, xu, xw⟩ := x
    obtain ⟨x0, x1, x2⟩ := M.bg.three
    by_cases hc : cc = 0
    · subst hc
      have PC : Hid (p = (pushL l ⟨xk, xu, xw⟩, 0)) := by unfold Hid; rw [PB.out, if_neg (by decide)]
      have KC := Lib.hid KC
      clear OUT PB
      go_enter Try.func10, Try.ntmps10
      go_wp2_with fail
      refine (KR.out _ M.bl).mono ?_
      rintro e' W1 ⟨rfl, B1⟩
      replace M := M.next B1
      clear B1 KR x0 x1 x2
      obtain ⟨x0, x1, x2⟩ := M.bg.three
      go_wp2_with fail
      refine (KK.out _).mono ?_
      rintro e' W2 ⟨rfl, B1⟩
      replace M := M.next B1
      clear B1 KK x0 x1 x2
      obtain ⟨x0, x1, x2⟩ := M.bg.three
      have BW := Lib.hid M.bl
      have SM : Hid (l.length + [(⟨xk, xu, xw⟩ : It)].length ≤ 1000000) := by unfold Hid; simp only [List.length_singleton]; have := HL.out; omega
      clear M hg
      go_upto_region 6 with fail
      go_cut [7] (fun s7 wx => Hid (Rw w.heap.size s7 (l ++ [⟨xk, xu, xw⟩]) wx) ∧ Hid (Below w.heap.size w wx))
      case first =>
        go_region_law (first
          | (refine step_appI rfl (.tmp 19) (.tmp 21) rfl rfl (RC.out.next ((Below.refl _ _).alloc (Nat.le_refl _) _)) (below_al BC.out _).size rfl (Its.new _ ⟨xk, xu, xw⟩ FX.out _) SM.out ?_; intro v' W' R' B'; have RR := Lib.hid R'; have BR := Lib.hid ((below_al BC.out _).trans B'); clear R' B')
          | (refine step_appI rfl (.tmp 19) (.tmp 21) rfl rfl RC.out BC.out.size rfl ((Its.new _ ⟨xk, xu, xw⟩ FX.out _).drew.next (by assumption)) SM.out ?_; intro v' W' R' B'; have RR := Lib.hid R'; have BR := Lib.hid (BC.out.trans B'); clear R' B')
          | (go_simp; go_wp2_with (first | (go_at_call 27; refine (KN.out _ ?_).mono ?_; (first | exact BW.out.drew | exact (below_al BW.out _).drew); rintro e' Zt ⟨v, rfl, RZ, BZ⟩; have BC : Hid (Below w.heap.size w Zt) := (by first | exact below_step BW.out.drew BZ | exact below_step ((below_al BW.out _).drew) BZ); have RC : Hid (Rw w.heap.size v l Zt) := RZ.mono (by first | exact BW.out.drew.size | exact (below_al BW.out _).drew.size); (first | have y0 := keep_cell BZ x0 | skip); (first | have y1 := keep_cell BZ x1 | skip); (first | have y2 := keep_cell BZ x2 | skip)))))
        all_goals (go_wp2_with fail; go_meet; exact ⟨RR, BR⟩)
      case rest =>
        obtain ⟨RR, BR⟩ := hcut
        generalize wc = W4 at *
        have ln : (l ++ [(⟨xk, xu, xw⟩ : It)]).length = n + 1 := by rw [List.length_append, ← HL.out]; rfl
        rcases RR.out.row with ⟨_, hl⟩ | ⟨go, cap, hv, hgo, h1, h2, R3⟩
        · exfalso; rw [hl] at ln; simp at ln
        · rw [ln] at h1 hv
          subst hv
          have LI := Lib.hid (lift_any (c := cap) (i := n) (n := n + 1) KC.out R3 ln (by omega) (by omega))
          have LE : Hid (liftL (l ++ [⟨xk, xu, xw⟩]) n = pushL l ⟨xk, xu, xw⟩) := by unfold Hid pushL; rw [HL.out]
          have HG := Lib.hid (show w.heap.size ≤ go ∧ n + 1 ≤ cap ∧ cap ≤ 9223372036854775807 from ⟨hgo, h1, h2⟩)
          clear RR R3 hgo h1 h2 ln
          go_wp2_with fail
          refine LI.out.mono ?_
          rintro e' W5 ⟨j, rfl, -, T⟩
          have TT := Lib.hid T
          clear LI T
          go_wp2_with fail
          refine bodyPost_ret (v := .tuple #[.slice (some ⟨go, 0, none⟩) (n + 1) cap, .int .i64 0]) (by simp [results, Try.results10, go_sem]) rfl ?_
          have hlen : (pushL l ⟨xk, xu, xw⟩).length = n + 1 := by rw [pushL_len, HL.out]
          rw [LE.out] at TT
          rw [PC.out]
          exact ⟨_, cap, by rw [hlen], ⟨TT.out.row.its rfl (by rw [hlen]; exact HG.out.2.1) HG.out.2.2, fun e => absurd e (by simp)⟩, BR.out.trans (TT.out.below HG.out.1 BR.out.size)⟩
    · have PC : Hid (p = (l, cc)) := by unfold Hid; rw [PB.out, if_pos hc]
      have hd : (cc != 0) = true := by simpa using hc
      have hd2 : (cc == 0) = false := by simpa using hc
      clear PB hc
      go_enter Try.func10, Try.ntmps10
      go_wp2_with fail
      refine (KR.out _ M.bl).mono ?_
      rintro e' W1 ⟨rfl, B1⟩
      replace M := M.next B1
      clear B1 KR x0 x1 x2
      obtain ⟨x0, x1, x2⟩ := M.bg.three
      go_wp2_with fail
      refine (KK.out _).mono ?_
      rintro e' W2 ⟨rfl, B1⟩
      have BL := Lib.hid (M.next B1).bl
      clear B1 KK x0 x1 x2
      go_wp2_with fail
      refine bodyPost_ret (v := .tuple #[.slice A n c, .int .i64 cc]) (by simp [results, Try.results10, go_sem]) rfl ?_
      exact OUT.out _ _ PC.out BL.out
end Go.Proofs.Ytnkhgkpijfohkaa
namespace Go.Proofs.Ytnkhgkpijfohkaa
open Go.RowKit
theorem prog11 : Prog11 where
  right h hn := heapRight_any rankCmp_any h.1 (by omega)
  find h hn k := heapFind_any rankCmp_any h.1 (by omega) k
  push h hn x fx := heapPush_any rankCmp_any h (by omega) x fx
  pop h hn := heapPop_any rankCmp_any h (by omega)
  put h hn i x hi fx := heapPut_any rankCmp_any h (by omega) i x hi fx
  down h hn := heapDown_any rankCmp_any h (by omega)
end Go.Proofs.Ytnkhgkpijfohkaa
namespace Go.Proofs.Ytnkhgkpijfohkaa
open Go.RowKit
/-- Blocks of the call's own, none twice; below them nothing has turned. -/
structure Own (w : World) (l : List (Nat × Array Value)) (W : World) : Prop where
  box : ∀ (k g : Nat) (cs : Array Value), l[k]? = some (g, cs) → w.heap.size ≤ g ∧ Box W g cs
  ne : ∀ (i j g g' : Nat) (cs cs' : Array Value), l[i]? = some (g, cs) → l[j]? = some (g', cs') → i ≠ j → g ≠ g'
  bl : Below w.heap.size w W
section
variable {w W W' : World} {l : List (Nat × Array Value)}
theorem Own.new (w : World) : Own w [] w := ⟨fun k g cs h => by simp at h, fun i j g g' cs cs' h => by simp at h, Below.refl _ _⟩
theorem Own.drew (h : Own w l W) : Own w l W.drew := ⟨fun k g cs hk => ⟨(h.box k g cs hk).1, (h.box k g cs hk).2.drew⟩, h.ne, h.bl.drew⟩
theorem Own.next (h : Own w l W) (hb : Below W.heap.size W W') : Own w l W' := ⟨fun k g cs hk => ⟨(h.box k g cs hk).1, (h.box k g cs hk).2.next hb⟩, h.ne, below_step h.bl hb⟩
theorem Own.set (h : Own w l W) (k : Nat) {g : Nat} {cs : Array Value} (hk : l[k]? = some (g, cs)) (i : Nat) (u : Value) : Own w (l.set k (g, cs.setIfInBounds i u)) (W.setCell ⟨g, i, none⟩ u) := by
  have lk : k < l.length := (List.getElem?_eq_some_iff.1 hk).1
  have back : ∀ (j g' : Nat) (ds : Array Value), (l.set k (g, cs.setIfInBounds i u))[j]? = some (g', ds) → (j = k ∧ g' = g ∧ ds = cs.setIfInBounds i u) ∨ (j ≠ k ∧ l[j]? = some (g', ds)) := by
    intro j g' ds hj
    rw [List.getElem?_set] at hj
    split at hj
    · rename_i e
      subst e
      first | (rw [if_pos lk] at hj) | skip
      injection hj with hj
      injection hj with e1 e2
      exact Or.inl ⟨rfl, e1.symm, e2.symm⟩
    · rename_i e
      exact Or.inr ⟨fun e' => e e'.symm, hj⟩
  refine ⟨fun j g' ds hj => ?_, fun i' j g1 g2 c1 c2 h1 h2 hne => ?_, below_set h.bl (h.box k g cs hk).1 u⟩
  · rcases back j g' ds hj with ⟨_, rfl, rfl⟩ | ⟨hj1, hj2⟩
    · exact ⟨(h.box k g' cs hk).1, (h.box k g' cs hk).2.set i u⟩
    · exact ⟨(h.box j g' ds hj2).1, (h.box j g' ds hj2).2.far (h.ne j k g' g ds cs hj2 hk hj1) u⟩
  · rcases back _ _ _ h1 with ⟨rfl, rfl, rfl⟩ | ⟨a1, a2⟩
    · rcases back _ _ _ h2 with ⟨rfl, rfl, rfl⟩ | ⟨b1, b2⟩
      · exact absurd rfl hne
      · exact h.ne _ _ _ _ _ _ hk b2 hne
    · rcases back _ _ _ h2 with ⟨rfl, rfl, rfl⟩ | ⟨b1, b2⟩
      · exact h.ne _ _ _ _ _ _ a2 hk hne
      · exact h.ne _ _ _ _ _ _ a2 b2 hne
theorem Own.alloc (h : Own w l W) {g : Nat} (hg : W.heap.size = g) (cs : Array Value) (t : TypeId) : Own w (l ++ [(g, cs)]) (W.alloc (.cells cs t)) := by
  subst hg
  have back : ∀ (j g' : Nat) (ds : Array Value), (l ++ [(W.heap.size, cs)])[j]? = some (g', ds) → (j = l.length ∧ g' = W.heap.size ∧ ds = cs) ∨ (j < l.length ∧ l[j]? = some (g', ds)) := by
    intro j g' ds hj
    by_cases e : j < l.length
    · rw [List.getElem?_append_left e] at hj; exact Or.inr ⟨e, hj⟩
    · rw [List.getElem?_append_right (by omega)] at hj
      by_cases e2 : j = l.length
      · subst e2
        rw [Nat.sub_self] at hj
        injection hj with hj
        injection hj with e1 e2
        exact Or.inl ⟨rfl, e1.symm, e2.symm⟩
      · rw [List.getElem?_eq_none (by simp; omega)] at hj; cases hj
  refine ⟨fun j g' ds hj => ?_, fun i j g1 g2 c1 c2 h1 h2 hne => ?_, below_al h.bl _⟩
  · rcases back j g' ds hj with ⟨_, rfl, rfl⟩ | ⟨_, hj2⟩
    · exact ⟨h.bl.size, Box.new W ds t⟩
    · exact ⟨(h.box j g' ds hj2).1, (h.box j g' ds hj2).2.alloc _⟩
  · rcases back _ _ _ h1 with ⟨rfl, rfl, rfl⟩ | ⟨a1, a2⟩
    · rcases back _ _ _ h2 with ⟨rfl, rfl, rfl⟩ | ⟨b1, b2⟩
      · exact absurd rfl hne
      · have := (h.box _ _ _ b2).2.lt; omega
    · rcases back _ _ _ h2 with ⟨rfl, rfl, rfl⟩ | ⟨b1, b2⟩
      · have := (h.box _ _ _ a2).2.lt; omega
      · exact h.ne _ _ _ _ _ _ a2 b2 hne
theorem Own.put3 (h : Own w l W) (k : Nat) {g : Nat} {z0 z1 z2 : Value} (hk : l[k]? = some (g, #[z0, z1, z2])) (a b c : Value) :
    Own w (l.set k (g, #[a, b, c])) (((W.setCell ⟨g, 0, none⟩ a).setCell ⟨g, 1, none⟩ b).setCell ⟨g, 2, none⟩ c) := by
  have lk : k < l.length := (List.getElem?_eq_some_iff.1 hk).1
  have h1 := h.set k hk 0 a
  have h2 := h1.set k (List.getElem?_set_self lk) 1 b
  rw [List.set_set] at h2
  have h3 := h2.set k (List.getElem?_set_self lk) 2 c
  rw [List.set_set] at h3
  exact h3
theorem Own.put2 (h : Own w l W) (k : Nat) {g : Nat} {z0 z1 : Value} (hk : l[k]? = some (g, #[z0, z1])) (a b : Value) :
    Own w (l.set k (g, #[a, b])) ((W.setCell ⟨g, 0, none⟩ a).setCell ⟨g, 1, none⟩ b) := by
  have lk : k < l.length := (List.getElem?_eq_some_iff.1 hk).1
  have h1 := h.set k hk 0 a
  have h2 := h1.set k (List.getElem?_set_self lk) 1 b
  rw [List.set_set] at h2
  exact h2
end
theorem size_alloc (w : World) (o : Obj) : (w.alloc o).heap.size = w.heap.size + 1 := by simp
end Go.Proofs.Ytnkhgkpijfohkaa
namespace Go.Proofs.Ytnkhgkpijfohkaa
open Go.RowKit
set_option linter.unusedVariables false
set_option linter.unusedSimpArgs false
set_option maxHeartbeats 8000000
set_option maxRecDepth 100000
def xa : It := ⟨⟨#[97]⟩, 1, 1⟩
def xb : It := ⟨⟨#[98]⟩, 3, 1⟩
def xc : It := ⟨⟨#[99]⟩, 2, 1⟩
theorem sgn_less {a b : Nat} (h : a < b) : sgn a b = -1 := by unfold sgn; (repeat' split) <;> omega
theorem sgn_more {a b : Nat} (h : b < a) : sgn a b = 1 := by unfold sgn; (repeat' split) <;> omega
theorem cmp_xba : cmpI xb xa = 1 := by unfold cmpI xb xa; rw [sgn_more (by decide)]; rfl
theorem cmp_xcb : cmpI xc xb = -1 := by unfold cmpI xc xb; rw [sgn_less (by decide)]; rfl
theorem cmp_xca : cmpI xc xa = 1 := by unfold cmpI xc xa; rw [sgn_more (by decide)]; rfl
theorem fit_xa : xa.Fit := ⟨by decide, by decide⟩
theorem fit_xb : xb.Fit := ⟨by decide, by decide⟩
theorem fit_xc : xc.Fit := ⟨by decide, by decide⟩
theorem may_xa : mayB xa = true := by decide
theorem may_xb : mayB xb = true := by decide
theorem may_xc : mayB xc = true := by decide
theorem push_1 : pushL [] xa = [xa] := by unfold pushL; rw [liftL, dif_pos (by rfl)]; rfl
theorem push_2 : pushL [xa] xb = [xb, xa] := by
  have e : pushL [xa] xb = liftL [xa, xb] 1 := rfl
  have n0 : nth [xa, xb] 0 = xa := nth_some rfl
  have n1 : nth [xa, xb] 1 = xb := nth_some rfl
  have sw : swp [xa, xb] 1 0 = [xb, xa] := by unfold swp; rw [n0, n1]; rfl
  rw [e, liftL, dif_neg (by decide), show (1 - 1) / 2 = 0 from rfl, n0, n1, if_neg (by rw [cmp_xba]; decide), sw, liftL, dif_pos rfl]
theorem push_3 : pushL [xb, xa] xc = [xb, xa, xc] := by
  have e : pushL [xb, xa] xc = liftL [xb, xa, xc] 2 := rfl
  have n0 : nth [xb, xa, xc] 0 = xb := nth_some rfl
  have n2 : nth [xb, xa, xc] 2 = xc := nth_some rfl
  rw [e, liftL, dif_neg (by decide), show (2 - 1) / 2 = 0 from rfl, n0, n2, if_pos (by rw [cmp_xcb]; decide)]
theorem right_1 : rightB [xa] = true := by have := rightB_push rightB_nil may_xa; rwa [push_1] at this
theorem right_2 : rightB [xb, xa] = true := by have := rightB_push right_1 may_xb; rwa [push_2] at this
theorem right_3 : rightB [xb, xa, xc] = true := by have := rightB_push right_2 may_xc; rwa [push_3] at this
theorem pop_3 : popL [xb, xa, xc] = [xc, xa] := by
  have n2 : nth [xb, xa, xc] 2 = xc := nth_some rfl
  have m0 : nth [xc, xa] 0 = xc := nth_some rfl
  have m1 : nth [xc, xa] 1 = xa := nth_some rfl
  have k : kid [xc, xa] 0 = 1 := by unfold kid; rw [if_neg (by simp)]
  unfold popL
  rw [if_neg (by decide), show [xb, xa, xc].length - 1 = 2 from rfl, n2, show (List.take 2 [xb, xa, xc]).set 0 xc = [xc, xa] from rfl, sinkL, dif_neg (by decide), k, m0, m1, if_pos (by rw [cmp_xca]; decide)]
theorem pushA_1 : pushA [] xa = ([xa], 0) := by unfold pushA; rw [if_neg (by rw [rightB_nil]; decide), if_neg (by rw [chk_may.2 may_xa]; decide), push_1]
theorem pushA_2 : pushA [xa] xb = ([xb, xa], 0) := by unfold pushA; rw [if_neg (by rw [right_1]; decide), if_neg (by rw [chk_may.2 may_xb]; decide), push_2]
theorem pushA_3 : pushA [xb, xa] xc = ([xb, xa, xc], 0) := by unfold pushA; rw [if_neg (by rw [right_2]; decide), if_neg (by rw [chk_may.2 may_xc]; decide), push_3]
theorem popA_3 : popA [xb, xa, xc] = (xb, [xc, xa], 0) := by unfold popA; rw [if_neg (by rw [right_3]; decide), if_neg (by decide), pop_3, show nth [xb, xa, xc] 0 = xb from nth_some rfl]
theorem findA_3 : findA [xb, xa, xc] ⟨#[99]⟩ = some 2 := by unfold findA; rw [if_neg (by rw [right_3]; decide)]; decide
theorem putA_3 : putA [xb, xa, xc] 3 xa = ([xb, xa, xc], 3) := by unfold putA; rw [if_neg (by rw [right_3]; decide), if_pos (by decide)]
theorem downA_3 : (downA [xb, xa, xc]).length = 3 := by rw [downA_right right_3, downN_len]; rfl
theorem lst_none (W : World) : Lst W none 0 [] := ⟨Its.none_ _ _ _ rfl (by decide), fun _ => rfl⟩
theorem awake11 (w : World) : Calls Try.prog 9 #[] w fun e w' => e = .returned (.bool true) ∧ Below w.heap.size w w' := by
  have P := Lib.hid prog11
  have M1 : Hid (∀ W : World, Calls Try.prog 10 #[.slice none 0 0, .agg #[.string ⟨#[97]⟩, .int .u64 1, .int .u64 1]] W fun e W' => ∃ X d, e = .returned (.tuple #[.slice X 1 d, .int .i64 0]) ∧ Lst W' X d [xa] ∧ Below W.heap.size W W') := fun W => by have := P.out.push (lst_none W) (by decide) xa fit_xa; rw [pushA_1] at this; exact this
  have M2 : Hid (∀ (X : Option Addr) (d : Nat) (W : World), Lst W X d [xa] → Calls Try.prog 10 #[.slice X 1 d, .agg #[.string ⟨#[98]⟩, .int .u64 3, .int .u64 1]] W fun e W' => ∃ X d, e = .returned (.tuple #[.slice X 2 d, .int .i64 0]) ∧ Lst W' X d [xb, xa] ∧ Below W.heap.size W W') := fun X d W h => by have := P.out.push h (by decide) xb fit_xb; rw [pushA_2] at this; exact this
  have M3 : Hid (∀ (X : Option Addr) (d : Nat) (W : World), Lst W X d [xb, xa] → Calls Try.prog 10 #[.slice X 2 d, .agg #[.string ⟨#[99]⟩, .int .u64 2, .int .u64 1]] W fun e W' => ∃ X d, e = .returned (.tuple #[.slice X 3 d, .int .i64 0]) ∧ Lst W' X d [xb, xa, xc] ∧ Below W.heap.size W W') := fun X d W h => by have := P.out.push h (by decide) xc fit_xc; rw [pushA_3] at this; exact this
  have M4 : Hid (∀ (X : Option Addr) (d : Nat) (W : World), Lst W X d [xb, xa, xc] → Calls Try.prog 11 #[.slice X 3 d] W fun e W' => ∃ X d, e = .returned (.tuple #[.agg #[.string ⟨#[98]⟩, .int .u64 3, .int .u64 1], .slice X 2 d, .int .i64 0]) ∧ Lst W' X d [xc, xa] ∧ Below W.heap.size W W') := fun X d W h => by have := P.out.pop h (by decide); rw [popA_3] at this; exact this
  have M5 : Hid (∀ (X : Option Addr) (d : Nat) (W : World), Lst W X d [xb, xa, xc] → Calls Try.prog 13 #[.slice X 3 d, .string ⟨#[99]⟩] W fun e W' => e = .returned (.tuple #[.int .i64 2, .bool true]) ∧ Below W.heap.size W W') := fun X d W h => by have := P.out.find h (by decide) ⟨#[99]⟩; rw [findA_3] at this; exact this
  have M6 : Hid (∀ (X : Option Addr) (d : Nat) (W : World), Lst W X d [xb, xa, xc] → Calls Try.prog 12 #[.slice X 3 d, .int .i64 3, .agg #[.string ⟨#[97]⟩, .int .u64 1, .int .u64 1]] W fun e W' => ∃ X d, e = .returned (.tuple #[.slice X 3 d, .int .i64 3]) ∧ Lst W' X d [xb, xa, xc] ∧ Below W.heap.size W W') := fun X d W h => by have := P.out.put h (by decide) 3 xa (by decide) fit_xa; rw [putA_3] at this; exact this
  have M7 : Hid (∀ (X : Option Addr) (d : Nat) (W : World), Lst W X d [xb, xa, xc] → Calls Try.prog 15 #[.slice X 3 d] W fun e W' => e = .returned (.bool true) ∧ Below W.heap.size W W') := fun X d W h => by have := P.out.right h (by decide); rw [right_3] at this; exact this
  have M8 : Hid (∀ (X : Option Addr) (d : Nat) (W : World), Lst W X d [xb, xa, xc] → Calls Try.prog 26 #[.slice X 3 d] W fun e W' => ∃ X d, e = .returned (.slice X 3 d) ∧ Below W.heap.size W W') := fun X d W h => (P.out.down h (by decide)).mono fun e W' ⟨X, d, he, _, hb⟩ => ⟨X, d, by rw [he, downA_3], hb⟩
  clear P
  obtain ⟨g, hg⟩ : ∃ g, w.heap.size = g := ⟨_, rfl⟩
  have O := (((Own.new w).alloc hg #[.string ⟨#[97]⟩, .int .u64 1, .int .u64 1] 25).alloc (show _ = g + 1 by simp [hg]) #[.string ⟨#[98]⟩, .int .u64 3, .int .u64 1] 25).alloc (show _ = g + 1 + 1 by simp [hg]) #[.string ⟨#[99]⟩, .int .u64 2, .int .u64 1] 25
  go_enter Try.func9, Try.ntmps9
  go_upto_region 2 with fail
  clear hg
  generalize ((w.alloc (.cells #[.string ⟨#[97]⟩, .int .u64 1, .int .u64 1] 25)).alloc (.cells #[.string ⟨#[98]⟩, .int .u64 3, .int .u64 1] 25)).alloc (.cells #[.string ⟨#[99]⟩, .int .u64 2, .int .u64 1] 25) = W0 at *
  generalize g + 1 + 1 = g2 at *
  generalize g + 1 = g1 at *
  obtain ⟨e1, e2, e3⟩ := (O.box 0 _ _ rfl).2.three
  go_wp2_with fail
  refine (M1.out _).mono ?_
  rintro e W1 ⟨X1, d1, rfl, L1, B1⟩
  replace O := O.next B1
  clear e1 e2 e3 B1 M1
  obtain ⟨e1, e2, e3⟩ := (O.box 1 _ _ rfl).2.three
  go_wp2_with fail
  refine (M2.out _ _ _ L1).mono ?_
  rintro e W2 ⟨X2, d2, rfl, L2, B1⟩
  replace O := O.next B1
  clear e1 e2 e3 B1 M2 L1
  obtain ⟨e1, e2, e3⟩ := (O.box 2 _ _ rfl).2.three
  go_wp2_with fail
  refine (M3.out _ _ _ L2).mono ?_
  rintro e W3 ⟨X3, d3, rfl, L3, B1⟩
  replace O := O.next B1
  clear e1 e2 e3 B1 M3 L2
  go_wp2_with fail
  refine (M4.out _ _ _ L3).mono ?_
  rintro e W4 ⟨X4, d4, rfl, L4, B1⟩
  replace O := (O.next B1).alloc rfl #[.string ⟨#[98]⟩, .int .u64 3, .int .u64 1] 25
  replace L3 := (L3.next B1).next ((Below.refl _ _).alloc (Nat.le_refl _) (.cells #[.string ⟨#[98]⟩, .int .u64 3, .int .u64 1] 25))
  replace L4 := L4.next ((Below.refl _ _).alloc (Nat.le_refl _) (.cells #[.string ⟨#[98]⟩, .int .u64 3, .int .u64 1] 25))
  clear B1 M4
  go_upto_region 6 with fail
  generalize W4.alloc (.cells #[.string ⟨#[98]⟩, .int .u64 3, .int .u64 1] 25) = W5 at *
  generalize W4.heap.size = g3 at *
  go_wp2_with fail
  refine (M5.out _ _ _ L3).mono ?_
  rintro e W6 ⟨rfl, B1⟩
  replace O := O.next B1
  replace L3 := L3.next B1
  replace L4 := L4.next B1
  clear B1 M5
  obtain ⟨e1, e2, e3⟩ := (O.box 0 _ _ rfl).2.three
  go_wp2_with fail
  refine (M6.out _ _ _ L3).mono ?_
  rintro e W7 ⟨X7, d7, rfl, -, B1⟩
  replace O := O.next B1
  replace L3 := L3.next B1
  replace L4 := L4.next B1
  clear e1 e2 e3 B1 M6
  go_upto_region 8 with fail
  obtain ⟨a0, a1, a2⟩ := (O.box 0 _ _ rfl).2.three
  obtain ⟨b0, b1, b2⟩ := (O.box 1 _ _ rfl).2.three
  obtain ⟨d0, d1, d2⟩ := (O.box 2 _ _ rfl).2.three
  obtain ⟨p0, p1, p2⟩ := (O.box 3 _ _ rfl).2.three
  have BL := Lib.hid O.bl
  clear O
  have M7 := Lib.hid (fun (W : World) (hb : Below W7.heap.size W7 W) => M7.out _ _ W (L3.next hb))
  have M8 := Lib.hid (fun (W : World) (hb : Below W7.heap.size W7 W) => M8.out _ _ W (L3.next hb))
  obtain ⟨ad, hj0, rfl, l0, l1, l2, -⟩ := L3.1.read 0 (by decide)
  obtain ⟨ad', hj1, e, m0, m1, m2, -⟩ := L3.1.read 1 (by decide)
  obtain rfl := Option.some.inj e
  obtain ⟨ar, hj2, rfl, q0, q1, q2, -⟩ := L4.1.read 0 (by decide)
  rw [show ad.add (0 * 3) = ad from by unfold Addr.add; rfl] at l0 l1 l2
  rw [show ar.add (0 * 3) = ar from by unfold Addr.add; rfl] at q0 q1 q2
  rw [show 1 * 3 = 3 from rfl] at m0 m1 m2
  replace l0 : W7.cell? ad = some (.string ⟨#[98]⟩) := l0
  replace l1 : W7.cell? ⟨ad.block, ad.off + 1, none⟩ = some (.int .u64 3) := l1
  replace l2 : W7.cell? ⟨ad.block, ad.off + 2, none⟩ = some (.int .u64 1) := l2
  replace m0 : W7.cell? ⟨ad.block, ad.off + 3, none⟩ = some (.string ⟨#[97]⟩) := m0
  replace m1 : W7.cell? ⟨ad.block, ad.off + 3 + 1, none⟩ = some (.int .u64 1) := m1
  replace m2 : W7.cell? ⟨ad.block, ad.off + 3 + 2, none⟩ = some (.int .u64 1) := m2
  replace q0 : W7.cell? ar = some (.string ⟨#[99]⟩) := q0
  replace q1 : W7.cell? ⟨ar.block, ar.off + 1, none⟩ = some (.int .u64 2) := q1
  replace q2 : W7.cell? ⟨ar.block, ar.off + 2, none⟩ = some (.int .u64 1) := q2
  clear L3 L4 hj0 hj1 hj2
  go_region_held3 (fun w' => w'.cell? ⟨g, 0, none⟩ = some (.string ⟨#[97]⟩) ∧ w'.cell? ⟨g, 1, none⟩ = some (.int .u64 1) ∧ w'.cell? ⟨g, 2, none⟩ = some (.int .u64 1) ∧ w'.cell? ⟨g1, 0, none⟩ = some (.string ⟨#[98]⟩) ∧ w'.cell? ⟨g1, 1, none⟩ = some (.int .u64 3) ∧ w'.cell? ⟨g1, 2, none⟩ = some (.int .u64 1) ∧ w'.cell? ⟨g2, 0, none⟩ = some (.string ⟨#[99]⟩) ∧ w'.cell? ⟨g2, 1, none⟩ = some (.int .u64 2) ∧ w'.cell? ⟨g2, 2, none⟩ = some (.int .u64 1) ∧ w'.cell? ⟨g3, 0, none⟩ = some (.string ⟨#[98]⟩) ∧ w'.cell? ⟨g3, 1, none⟩ = some (.int .u64 3) ∧ w'.cell? ⟨g3, 2, none⟩ = some (.int .u64 1) ∧ w'.cell? ad = some (.string ⟨#[98]⟩) ∧ w'.cell? ⟨ad.block, ad.off + 1, none⟩ = some (.int .u64 3) ∧ w'.cell? ⟨ad.block, ad.off + 2, none⟩ = some (.int .u64 1) ∧ w'.cell? ⟨ad.block, ad.off + 3, none⟩ = some (.string ⟨#[97]⟩) ∧ w'.cell? ⟨ad.block, ad.off + 3 + 1, none⟩ = some (.int .u64 1) ∧ w'.cell? ⟨ad.block, ad.off + 3 + 2, none⟩ = some (.int .u64 1) ∧ w'.cell? ar = some (.string ⟨#[99]⟩) ∧ w'.cell? ⟨ar.block, ar.off + 1, none⟩ = some (.int .u64 2) ∧ w'.cell? ⟨ar.block, ar.off + 2, none⟩ = some (.int .u64 1))
    ((refine ⟨?_, ?_, ?_, ?_, ?_, ?_, ?_, ?_, ?_, ?_, ?_, ?_, ?_, ?_, ?_, ?_, ?_, ?_, ?_, ?_, ?_⟩ <;> (repeat (first | with_reducible exact a0 | with_reducible exact a1 | with_reducible exact a2 | with_reducible exact b0 | with_reducible exact b1 | with_reducible exact b2 | with_reducible exact d0 | with_reducible exact d1 | with_reducible exact d2 | with_reducible exact p0 | with_reducible exact p1 | with_reducible exact p2 | with_reducible exact l0 | with_reducible exact l1 | with_reducible exact l2 | with_reducible exact m0 | with_reducible exact m1 | with_reducible exact m2 | with_reducible exact q0 | with_reducible exact q1 | with_reducible exact q2 | with_reducible refine keep_drew ?_ | with_reducible refine keep_cell (by assumption) ?_))))
    (first
      | (go_at_call 15; (with_reducible refine (M7.out _ ?_).mono ?_); (· repeat (first | with_reducible exact Below.refl _ _ | with_reducible exact (Below.refl _ _).drew | with_reducible refine Below.drew ?_ | refine below_step ?_ (by assumption))); rintro e v ⟨rfl, BZ⟩)
      | (go_at_call 26; (with_reducible refine (M8.out _ ?_).mono ?_); (· repeat (first | with_reducible exact Below.refl _ _ | with_reducible exact (Below.refl _ _).drew | with_reducible refine Below.drew ?_ | refine below_step ?_ (by assumption))); rintro e v ⟨A', c', rfl, BZ⟩))
  all_goals go_wp2_with fail
  all_goals go_ret
  all_goals refine ⟨rfl, ?_⟩
  all_goals (repeat (first | with_reducible exact BL.out.drew | refine below_step ?_ (by assumption)))
end Go.Proofs.Ytnkhgkpijfohkaa
namespace Go.Proofs.Ytnkhgkpijfohkaa
open Go.RowKit
/-- An act: a pop, a put at i, or a push. -/
structure Ac where
  pop : Bool
  put : Bool
  i : Int
  x : It
structure Ac.Fit (a : Ac) : Prop where
  lo : -9223372036854775808 ≤ a.i
  hi : a.i ≤ 9223372036854775807
  x : a.x.Fit
theorem add_nextn (ad : Addr) (k d : Nat) (hd : d ≠ 0) : (⟨(ad.add k).block, (ad.add k).off + d, none⟩ : Addr) = ad.add (k + d) := by
  unfold Addr.add
  rw [if_neg (show k + d ≠ 0 by omega)]
  split
  · rename_i h; subst h; simp
  · simp [Nat.add_assoc]
/-- The slice at A of length n reads as the acts s. -/
structure Acts (W : World) (A : Option Addr) (n c : Nat) (s : List Ac) : Prop where
  len : s.length = n
  cap : n ≤ c
  top : c ≤ 9223372036854775807
  at_ : ∀ j (h : j < s.length), ∃ ad, A = some ad ∧ W.cell? (ad.add (j * 6)) = some (.bool s[j].pop) ∧ W.cell? (ad.add (j * 6 + 1)) = some (.bool s[j].put) ∧ W.cell? (ad.add (j * 6 + 2)) = some (.int .i64 s[j].i) ∧
    W.cell? (ad.add (j * 6 + 3)) = some (.string s[j].x.k) ∧ W.cell? (ad.add (j * 6 + 4)) = some (.int .u64 (s[j].x.u : Int)) ∧ W.cell? (ad.add (j * 6 + 5)) = some (.int .u64 (s[j].x.w : Int))
  fit : ∀ x ∈ s, x.Fit
section
variable {W W' : World} {A : Option Addr} {n c : Nat} {s : List Ac}
theorem Acts.next (h : Acts W A n c s) (hb : Below W.heap.size W W') : Acts W' A n c s :=
  ⟨h.len, h.cap, h.top, fun j hj => by
    obtain ⟨ad, e, h0, h1, h2, h3, h4, h5⟩ := h.at_ j hj
    exact ⟨ad, e, keep_cell hb h0, keep_cell hb h1, keep_cell hb h2, keep_cell hb h3, keep_cell hb h4, keep_cell hb h5⟩, h.fit⟩
/-- .. as the walk reads it. -/
theorem Acts.read (h : Acts W A n c s) (j : Nat) (hj : j < n) : ∃ (ad : Addr) (a : Ac), A = some ad ∧ a.Fit ∧ W.cell? (ad.add (j * 6)) = some (.bool a.pop) ∧ W.cell? ⟨(ad.add (j * 6)).block, (ad.add (j * 6)).off + 1, none⟩ = some (.bool a.put) ∧ W.cell? ⟨(ad.add (j * 6)).block, (ad.add (j * 6)).off + 2, none⟩ = some (.int .i64 a.i) ∧
    W.cell? ⟨(ad.add (j * 6)).block, (ad.add (j * 6)).off + 3, none⟩ = some (.string a.x.k) ∧ W.cell? ⟨(ad.add (j * 6)).block, (ad.add (j * 6)).off + 4, none⟩ = some (.int .u64 (a.x.u : Int)) ∧ W.cell? ⟨(ad.add (j * 6)).block, (ad.add (j * 6)).off + 5, none⟩ = some (.int .u64 (a.x.w : Int)) := by
  have hj' : j < s.length := by rw [h.len]; exact hj
  obtain ⟨ad, e, h0, h1, h2, h3, h4, h5⟩ := h.at_ j hj'
  exact ⟨ad, s[j], e, h.fit _ (List.getElem_mem hj'), h0, by rw [add_nextn _ _ _ (by decide)]; exact h1, by rw [add_nextn _ _ _ (by decide)]; exact h2, by rw [add_nextn _ _ _ (by decide)]; exact h3, by rw [add_nextn _ _ _ (by decide)]; exact h4, by rw [add_nextn _ _ _ (by decide)]; exact h5⟩
end
end Go.Proofs.Ytnkhgkpijfohkaa
namespace Go.Proofs.Ytnkhgkpijfohkaa
open Go.RowKit Go.ChangeShapes Go.WideShapes Go.ChangeAt Go.Joins
set_option linter.unusedSimpArgs false
set_option linter.unusedVariables false
theorem own : ownKnob Try.prog.godebug = none := by kernel_rfl
theorem laidOut : laidOutB Try.prog = true := by kernel_rfl
theorem cells_item : Try.prog.cellsOf 25 = 3 := by kernel_rfl
theorem cells_act : Try.prog.cellsOf 44 = 6 := by kernel_rfl
theorem readable_item : Try.prog.readableRec 25 = true := by kernel_rfl
theorem typed_item : 25 < Try.prog.types.size := of_decide_eq_true (by kernel_rfl)
theorem readable_items : Try.prog.readableRec 22 = true := by kernel_rfl
theorem typed_items : 22 < Try.prog.types.size := of_decide_eq_true (by kernel_rfl)
theorem readable_acts : Try.prog.readableRec 42 = true := by kernel_rfl
theorem typed_acts : 42 < Try.prog.types.size := of_decide_eq_true (by kernel_rfl)
theorem readable_int : Try.prog.readableRec 3 = true := by kernel_rfl
theorem typed_int : 3 < Try.prog.types.size := of_decide_eq_true (by kernel_rfl)
theorem readable_str : Try.prog.readableRec 9 = true := by kernel_rfl
theorem typed_str : 9 < Try.prog.types.size := of_decide_eq_true (by kernel_rfl)
section
variable {H : Type} {enc : TypeId × Value → H} {P : Program} {W : World} {base : Nat} {v : Value} {d : DataW H} {p : List MemPlace}
theorem post_args {f : Func} {s : ChangeSpec} {apart : Bool} {W W' : World} {args : Array Value} {v : Value} {ds gs : List (DataW H)} {before : List MemPlace}
    (hW : DataW.Whole enc P f.params.toList s.vars apart W args.toList ds gs before)
    (hres : ∀ (b : Nat) (sp : Nat → Bool) (hd : Bool), DataW.TrodAll enc P W' b sp hd f.resultTypes.toList (v.resultList f.resultTypes.size) (s.fn H (ds ++ gs)).results [])
    (hargs : DataW.TrodAll enc P W' 0 (fun b => decide (b < W.heap.size)) true f.params.toList args.toList (s.fn H (ds ++ gs)).args before)
    (hvars : ∀ sp : Nat → Bool, DataW.TrodVars enc P W' sp s.vars (s.fn H (ds ++ gs)).vars [])
    (hb : Below W.heap.size W W') : s.post enc P f apart true false false W args v W' :=
  ⟨ds, gs, before, [], before, [], hW, hres _ _ _, hargs, hvars _, hb.frame _, fun h => by cases h⟩
end
section
variable {H : Type} {enc : TypeId × Value → H} {W : World} {base : Nat} {v : Value} {d : DataW H} {p : List MemPlace}
set_option maxRecDepth 100000 in
theorem open_i64 (hv : Value.okWide Try.prog W .any base 3 v) (h : DataW.Trod enc Try.prog W 0 (fun _ => true) true 3 v d p) : ∃ x : Int, v = .int .i64 x ∧ -9223372036854775808 ≤ x ∧ x ≤ 9223372036854775807 := by
  obtain ⟨x, rfl, rfl, rfl, wx⟩ := open_int Try.underlying3 hv h
  exact ⟨x, rfl, bounds_i64 wx⟩
set_option maxRecDepth 100000 in
theorem open_item (hv : Value.okWide Try.prog W .any base 25 v) (h : DataW.Trod enc Try.prog W 0 (fun _ => true) true 25 v d p) : ∃ x : It, v = itv x ∧ x.Fit := by
  obtain ⟨c0, c1, c2, y0, y1, y2, m, rfl, rfl, rfl, h0, h1, h2⟩ := open_agg3 Try.underlying25 (by kernel_rfl) cells_item hv h
  obtain ⟨k, e0, -, -⟩ := DataW.trod_string Try.underlying9 h0
  obtain ⟨a, e1, -, wa⟩ := DataW.trod_int Try.underlying23 h1
  obtain ⟨b, e2, -, wb⟩ := DataW.trod_int Try.underlying23 h2
  simp at e0 e1 e2
  subst e0 e1 e2
  have x1 := bounds_u64 wa
  have x2 := bounds_u64 wb
  exact ⟨⟨k, a.toNat, b.toNat⟩, by rw [itv, Int.toNat_of_nonneg x1.1, Int.toNat_of_nonneg x2.1], by dsimp only; omega, by dsimp only; omega⟩
set_option maxRecDepth 100000 in
theorem open_items (hv : Value.okWide Try.prog W .any base 22 v) (h : DataW.Trod enc Try.prog W 0 (fun _ => true) true 22 v d p) : ∃ A c l, v = .slice A l.length c ∧ Lst W A c l := by
  obtain ⟨A, n, c, rfl⟩ := okWide_slice Try.underlying22 hv
  obtain ⟨fuel, hf⟩ := h
  rcases Go.Deep.open_slice Try.underlying22 hf with ⟨hcs, -⟩ | ⟨a, len, cap, m, nn, D, Pl, hcs, -, hle, hmax, hm, -, hx⟩
  · simp [Value.cells] at hcs
    obtain ⟨rfl, rfl, rfl⟩ := hcs
    exact ⟨none, 0, [], rfl, Its.none_ _ _ _ rfl (by decide), fun _ => rfl⟩
  · simp [Value.cells] at hcs
    obtain ⟨rfl, rfl, rfl⟩ := hcs
    simp only [if_true] at hm
    subst hm
    unfold maxLen at hmax
    have each : ∀ i, i < n → ∃ x : It, x.Fit ∧ W.cell? (a.add (i * 3)) = some (.string x.k) ∧ W.cell? (a.add (i * 3 + 1)) = some (.int .u64 (x.u : Int)) ∧ W.cell? (a.add (i * 3 + 2)) = some (.int .u64 (x.w : Int)) := by
      intro i hi
      obtain ⟨cs', h1, h2⟩ := hx i (by omega)
      rw [cells_item] at h1
      obtain ⟨_, hlen, hcell⟩ := World.cells?_some h1
      obtain ⟨y0, y1, y2, k, -, -, g0, g1, g2⟩ := Go.Deep.trod_struct3 Try.underlying25 h2
      match cs', hlen with
      | [v0, v1, v2], _ =>
        have k0 := hcell 0 (by omega)
        have k1 := hcell 1 (by omega)
        have k2 := hcell 2 (by omega)
        rw [Go.Deep.add_add] at k0 k1 k2
        obtain ⟨s, e0, -, -⟩ := DataW.trod_string Try.underlying9 g0
        obtain ⟨b1, e1, -, w1⟩ := DataW.trod_int Try.underlying23 g1
        obtain ⟨b2, e2, -, w2⟩ := DataW.trod_int Try.underlying23 g2
        rw [show Try.prog.cellsOf 9 = 1 by kernel_rfl] at e0
        rw [show Try.prog.cellsOf 23 = 1 by kernel_rfl] at e1 e2
        simp at e0 e1 e2
        subst e0 e1 e2
        have x1 := bounds_u64 w1
        have x2 := bounds_u64 w2
        refine ⟨⟨s, b1.toNat, b2.toNat⟩, ⟨by dsimp only; omega, by dsimp only; omega⟩, ?_, ?_, ?_⟩
        · simpa using k0
        · dsimp only; rw [Int.toNat_of_nonneg x1.1]; simpa using k1
        · dsimp only; rw [Int.toNat_of_nonneg x2.1]; simpa using k2
    let f : Nat → It := fun i => open Classical in if h : i < n then Classical.choose (each i h) else ⟨⟨#[]⟩, 0, 0⟩
    have hfi : ∀ i (h : i < n), f i = Classical.choose (each i h) := fun i h => dif_pos h
    refine ⟨_, m, (List.range n).map f, by rw [show ((List.range n).map f).length = n by simp], ⟨rfl, by simpa using hle, hmax, fun j hj => ⟨_, rfl, ?_⟩, fun x hxm => ?_⟩, fun e => absurd e (by simp)⟩
    · have hj' : j < n := by simpa using hj
      have sp := Classical.choose_spec (each j hj')
      simp only [List.getElem_map, List.getElem_range, hfi j hj']
      exact sp.2
    · rw [List.mem_map] at hxm
      obtain ⟨j, hj, rfl⟩ := hxm
      have hj' : j < n := by simpa using hj
      rw [hfi j hj']
      exact (Classical.choose_spec (each j hj')).1
set_option maxRecDepth 100000 in
theorem open_acts (hv : Value.okWide Try.prog W .any base 42 v) (h : DataW.Trod enc Try.prog W 0 (fun _ => true) true 42 v d p) : ∃ A n c l, v = .slice A n c ∧ Acts W A n c l := by
  obtain ⟨A, n, c, rfl⟩ := okWide_slice Try.underlying42 hv
  obtain ⟨fuel, hf⟩ := h
  rcases Go.Deep.open_slice Try.underlying42 hf with ⟨hcs, -⟩ | ⟨a, len, cap, m, nn, D, Pl, hcs, -, hle, hmax, hm, -, hx⟩
  · simp [Value.cells] at hcs
    obtain ⟨rfl, rfl, rfl⟩ := hcs
    exact ⟨none, 0, 0, [], rfl, rfl, Nat.le_refl _, Nat.zero_le _, fun j hj => absurd hj (by simp), fun s hs => absurd hs (by simp)⟩
  · simp [Value.cells] at hcs
    obtain ⟨rfl, rfl, rfl⟩ := hcs
    simp only [if_true] at hm
    subst hm
    unfold maxLen at hmax
    have each : ∀ i, i < n → ∃ x : Ac, x.Fit ∧ W.cell? (a.add (i * 6)) = some (.bool x.pop) ∧ W.cell? (a.add (i * 6 + 1)) = some (.bool x.put) ∧ W.cell? (a.add (i * 6 + 2)) = some (.int .i64 x.i) ∧ W.cell? (a.add (i * 6 + 3)) = some (.string x.x.k) ∧ W.cell? (a.add (i * 6 + 4)) = some (.int .u64 (x.x.u : Int)) ∧ W.cell? (a.add (i * 6 + 5)) = some (.int .u64 (x.x.w : Int)) := by
      intro i hi
      obtain ⟨cs', h1, h2⟩ := hx i (by omega)
      rw [cells_act] at h1
      obtain ⟨_, hlen, hcell⟩ := World.cells?_some h1
      obtain ⟨y0, y1, y2, y3, k, -, -, g0, g1, g2, g3⟩ := trod_struct4 Try.underlying44 h2
      match cs', hlen with
      | [v0, v1, v2, v3, v4, v5], _ =>
        have k0 := hcell 0 (by omega)
        have k1 := hcell 1 (by omega)
        have k2 := hcell 2 (by omega)
        have k3 := hcell 3 (by omega)
        have k4 := hcell 4 (by omega)
        have k5 := hcell 5 (by omega)
        rw [Go.Deep.add_add] at k0 k1 k2 k3 k4 k5
        obtain ⟨b0, e0, -⟩ := DataW.trod_bool Try.underlying4 g0
        obtain ⟨b1, e1, -⟩ := DataW.trod_bool Try.underlying4 g1
        obtain ⟨z2, e2, -, w2⟩ := DataW.trod_int Try.underlying3 g2
        rw [show Try.prog.cellsOf 4 = 1 by kernel_rfl] at e0 e1
        rw [show Try.prog.cellsOf 3 = 1 by kernel_rfl] at e2
        rw [show Try.prog.cellsOf 25 = 3 by kernel_rfl] at g3
        obtain ⟨u0, u1, u2, k', -, -, f0, f1, f2⟩ := Go.Deep.trod_struct3 Try.underlying25 g3
        obtain ⟨s, e3, -, -⟩ := DataW.trod_string Try.underlying9 f0
        obtain ⟨b4, e4, -, w4⟩ := DataW.trod_int Try.underlying23 f1
        obtain ⟨b5, e5, -, w5⟩ := DataW.trod_int Try.underlying23 f2
        rw [show Try.prog.cellsOf 9 = 1 by kernel_rfl] at e3
        rw [show Try.prog.cellsOf 23 = 1 by kernel_rfl] at e4 e5
        simp at e0 e1 e2 e3 e4 e5
        subst e0 e1 e2 e3 e4 e5
        have x2 := bounds_i64 w2
        have x4 := bounds_u64 w4
        have x5 := bounds_u64 w5
        refine ⟨⟨b0, b1, z2, ⟨s, b4.toNat, b5.toNat⟩⟩, ⟨x2.1, x2.2, ⟨by dsimp only; omega, by dsimp only; omega⟩⟩, ?_, ?_, ?_, ?_, ?_, ?_⟩
        · simpa using k0
        · simpa using k1
        · simpa using k2
        · simpa using k3
        · dsimp only; rw [Int.toNat_of_nonneg x4.1]; simpa using k4
        · dsimp only; rw [Int.toNat_of_nonneg x5.1]; simpa using k5
    let f : Nat → Ac := fun i => open Classical in if h : i < n then Classical.choose (each i h) else ⟨false, false, 0, ⟨⟨#[]⟩, 0, 0⟩⟩
    have hfi : ∀ i (h : i < n), f i = Classical.choose (each i h) := fun i h => dif_pos h
    refine ⟨_, _, _, (List.range n).map f, rfl, by simp, hle, hmax, fun j hj => ⟨_, rfl, ?_⟩, fun x hxm => ?_⟩
    · have hj' : j < n := by simpa using hj
      have sp := Classical.choose_spec (each j hj')
      simp only [List.getElem_map, List.getElem_range, hfi j hj']
      exact sp.2
    · rw [List.mem_map] at hxm
      obtain ⟨j, hj, rfl⟩ := hxm
      have hj' : j < n := by simpa using hj
      rw [hfi j hj']
      exact (Classical.choose_spec (each j hj')).1
end
end Go.Proofs.Ytnkhgkpijfohkaa
