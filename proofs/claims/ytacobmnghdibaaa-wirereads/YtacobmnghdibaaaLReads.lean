/- For any bytes, place and asks the law WireReads answers true: whatever is asked of any bytes is told as the document says, or is not there. No condition. -/
import Derived.Test.YtacobmnghdibaaaJ15
import Derived.Test.YtacobmnghdibaaaJ16
namespace Go.Proofs.Ytacobmnghdibaaa.wireReads
open Go.ChangeShapes Go.WideShapes Go.ChangeAt Go.RowKit
open Go.Proofs.Ytacobmnghdibaaa
set_option linter.unusedVariables false
set_option linter.unusedSimpArgs false

theorem ownTk {w W W' : World} {l : List (Nat × Array Value)} {g k : Nat} {cs ds : Array Value} (h : Own w l W) (hk : l[k]? = some (g, cs)) (T : Tk g ds W W') : Own w (l.set k (g, ds)) W' := by
  have lk : k < l.length := (List.getElem?_eq_some_iff.1 hk).1
  have back : ∀ (j g' : Nat) (es : Array Value), (l.set k (g, ds))[j]? = some (g', es) → (j = k ∧ g' = g ∧ es = ds) ∨ (j ≠ k ∧ l[j]? = some (g', es)) := by
    intro j g' es hj
    by_cases e : k = j
    · subst e
      rw [List.getElem?_set_self lk] at hj
      injection hj with hj
      injection hj with e1 e2
      exact Or.inl ⟨rfl, e1.symm, e2.symm⟩
    · rw [List.getElem?_set_ne e] at hj
      exact Or.inr ⟨fun e' => e e'.symm, hj⟩
  refine ⟨fun j g' es hj => ?_, fun i j g1 g2 c1 c2 h1 h2 hne => ?_, h.bl.trans (T.below (h.box k g cs hk).1 h.bl.size)⟩
  · rcases back j g' es hj with ⟨_, rfl, rfl⟩ | ⟨hj1, hj2⟩
    · exact ⟨(h.box k g' cs hk).1, T.box⟩
    · exact ⟨(h.box j g' es hj2).1, (h.box j g' es hj2).2.tk T (h.ne j k g' g es cs hj2 hk hj1)⟩
  · rcases back _ _ _ h1 with ⟨rfl, rfl, rfl⟩ | ⟨a1, a2⟩
    · rcases back _ _ _ h2 with ⟨rfl, rfl, rfl⟩ | ⟨b1, b2⟩
      · exact absurd rfl hne
      · exact h.ne _ _ _ _ _ _ hk b2 hne
    · rcases back _ _ _ h2 with ⟨rfl, rfl, rfl⟩ | ⟨b1, b2⟩
      · exact h.ne _ _ _ _ _ _ a2 hk hne
      · exact h.ne _ _ _ _ _ _ a2 b2 hne
theorem add_next (ad : Addr) (k : Nat) : (⟨(ad.add k).block, (ad.add k).off + 1, none⟩ : Addr) = ad.add (k + 1) := by
  unfold Addr.add
  rw [if_neg (Nat.succ_ne_zero k)]
  split
  · rename_i h; rw [h]
  · simp [Nat.add_assoc]
set_option maxHeartbeats 4000000 in
set_option maxRecDepth 100000 in
theorem walk (s : ByteArray) (p0 : Int) (lo0 : Bool) (A : Option Addr) (n c : Nat) (ks : List (Int × Int)) (w : World) (HK : Asks w A n c ks) : Calls Try.prog 4 #[.string s, .int .i64 p0, .bool lo0, .slice A n c] w fun e w' => e = .returned (.bool true) ∧ Below w.heap.size w w' := by
  have KF := Lib.hid awake8_any
  by_cases b1 : 600 < s.size
  · have i1 : (600 : Int) < s.size := by omega
    clear b1 HK
    go_enter Try.func4, Try.ntmps4
    go_wp2_with fail
    refine (KF.out _).mono ?_
    rintro e y ⟨rfl, hy⟩
    go_wp2_with fail
    go_ret
    exact ⟨rfl, hy⟩
  have i1 : ¬ (600 : Int) < s.size := by omega
  by_cases b2 : 20 < n
  · have i2 : (20 : Int) < n := by omega
    clear b2 HK
    go_enter Try.func4, Try.ntmps4
    go_wp2_with fail
    refine (KF.out _).mono ?_
    rintro e y ⟨rfl, hy⟩
    go_wp2_with fail
    go_ret
    exact ⟨rfl, hy⟩
  have i2 : ¬ (20 : Int) < n := by omega
  have hs : Hid (s.size ≤ 281474976710656) := by unfold Hid; omega
  have M0 := (((Own.new w).alloc rfl #[.string s, .int .i64 p0, .bool lo0] 41).alloc (World.size_alloc _ _) #[.string s, .int .i64 p0, .bool lo0] 42)
  obtain ⟨g, hg⟩ : ∃ g, w.heap.size = g := ⟨_, rfl⟩
  rw [hg] at M0
  obtain ⟨r, hr⟩ : ∃ r, g + 1 = r := ⟨_, rfl⟩
  rw [hr] at M0
  replace M0 : Own w [(g, #[.string s, .int .i64 p0, .bool lo0]), (r, #[.string s, .int .i64 p0, .bool lo0])] _ := M0
  have HKH := Lib.hid HK
  have LK := Lib.hid HK.len
  have K1 : Hid (∀ (W : World) (p : Int) (lo : Bool) (kind most : Int), Box W g #[.string s, .int .i64 p, .bool lo] → -9223372036854775808 ≤ most ∧ most ≤ 9223372036854775807 → _) := fun W p lo kind most h hm => asked8_any (w := W) h kind most hm (by omega)
  have K2 : Hid (∀ (W : World) (p : Int) (lo : Bool), Box W g #[.string s, .int .i64 p, .bool lo] → _) := fun W p lo h => same8_any (w := W) h
  have n9 : n ≤ 20 := by omega
  clear b1 b2 HK
  have KA : Hid True := trivial
  go_enter Try.func4, Try.ntmps4
  go_wp2_with fail
  clear hg hr
  generalize (w.alloc (.cells #[.string s, .int .i64 p0, .bool lo0] 41)).alloc (.cells #[.string s, .int .i64 p0, .bool lo0] 42) = W at *
  go_loopg [35] n (fun q s35 wr => ∃ (i : Nat) (p : Int) (lo : Bool), i + q = n ∧ s35 = .int .i64 (i : Int) ∧ Own w [(g, #[.string s, .int .i64 p, .bool lo]), (r, #[.string s, .int .i64 p, .bool lo])] wr)
  case atStart => exact ⟨0, p0, lo0, by omega, rfl, M0⟩
  case round =>
    obtain ⟨i, p, lo, hq, rfl, M⟩ := hrel
    have HQ := Lib.hid hq
    clear M0
    by_cases lt : i < n
    · have il : (i : Int) < n := by omega
      have il0 : (0 : Int) ≤ i := by omega
      have ew : IntKind.i64.wrap ((i : Int) + 1) = ((i + 1 : Nat) : Int) := by rw [IntKind.wrap_i64]; omega
      have i1' : i < ks.length := by rw [LK.out]; exact lt
      obtain ⟨ad, rfl, a0, a1⟩ := (HKH.out.next M.bl).at_ i i1'
      have mb := HKH.out.sz ks[i] (List.getElem_mem i1')
      generalize ks[i] = k at *
      obtain ⟨kind, most⟩ := k
      dsimp only at a0 a1 mb
      rw [← add_next] at a1
      replace M := M.next (below_one wr (.cells #[.int .i64 kind, .int .i64 most] 44))
      obtain ⟨k0, k1, k2⟩ := (M.box 1 r _ rfl).2.three
      clear hq
      go_wp2_with fail
      clear a0 a1 k0 k1 k2
      generalize wr.alloc (.cells #[.int .i64 kind, .int .i64 most] 44) = V at *
      refine (K1.out _ p lo kind most (M.box 0 g _ rfl).2 mb).mono ?_
      rintro e V2 ⟨o, rfl, T⟩
      have M2 : Own w [(g, #[.string s, .int .i64 (rdoP p o), .bool (rdoL o)]), (r, #[.string s, .int .i64 p, .bool lo])] V2 := ownTk M (k := 0) rfl T
      clear M T
      generalize rdoP p o = p2 at *
      generalize rdoL o = lo2 at *
      have Z := Box.new V2 #[.string s, .int .i64 p2, .bool lo2] 42
      obtain ⟨z, hz⟩ : ∃ z, V2.heap.size = z := ⟨_, rfl⟩
      rw [hz] at Z
      have zr : Hid (z ≠ r) := by have := (M2.box 1 r _ rfl).2.lt; unfold Hid; omega
      replace M2 := M2.next (below_one V2 (.cells #[.string s, .int .i64 p2, .bool lo2] 42))
      obtain ⟨z0, z1, z2⟩ := Z.three
      go_wp2_with fail
      clear hz z0 z1 z2
      generalize V2.alloc (.cells #[.string s, .int .i64 p2, .bool lo2] 42) = V3 at *
      refine (K2.out _ p2 lo2 (M2.box 0 g _ rfl).2).mono ?_
      rintro e V4 ⟨rfl, B⟩
      replace M2 := M2.next B
      replace Z := Z.next B
      clear B
      obtain ⟨z0, z1, z2⟩ := Z.three
      obtain ⟨k0, k1, k2⟩ := (M2.box 1 r _ rfl).2.three
      have m0 := (M2.box 1 r _ rfl).2.melt 0; have m1 := (M2.box 1 r _ rfl).2.melt 1; have m2 := (M2.box 1 r _ rfl).2.melt 2
      have M9 := Lib.hid (M2.put3 1 rfl (.string s) (.int .i64 p2) (.bool lo2))
      clear M2 Z
      go_wp2_with fail
      go_roundg (gk - 1)
      case measure => have := HQ.out; omega
      case rel =>
        go_light
        exact ⟨i + 1, p2, lo2, by have := HQ.out; omega, by first | rfl | rw [ew], M9.out⟩
    · have il : ¬ (i : Int) < n := by omega
      clear hq HKH LK K1 K2 KA
      cases lo
      · by_cases pe : p = (s.size : Int)
        · have OK : okD s p false = 0 := by unfold okD; rw [if_pos ⟨rfl, pe⟩]
          have hb : (p == (s.size : Int)) = true := by rw [pe]; simp
          clear pe
          have KD : Hid (∀ Z : World, Below wr.heap.size wr Z → Calls Try.prog 23 #[.pointer (some ⟨g, 0, none⟩)] Z fun e w' => e = .returned (.int .i64 (okD s p false)) ∧ Below Z.heap.size Z w') := fun Z hZ => done_any ((M.box 0 g _ rfl).2.next hZ) hs.out
          rw [OK] at KD
          obtain ⟨k0, k1, k2⟩ := (M.box 1 r _ rfl).2.three
          have MB := Lib.hid M.bl
          clear M OK
          go_wp2_with fail
          first
            | (go_region_held3 (fun w' => w'.cell? ⟨r, 0, none⟩ = some (.string s) ∧ w'.cell? ⟨r, 1, none⟩ = some (.int .i64 p) ∧ w'.cell? ⟨r, 2, none⟩ = some (.bool false))
                ((refine ⟨?_, ?_, ?_⟩ <;> (repeat (first | with_reducible exact k0 | with_reducible exact k1 | with_reducible exact k2 | with_reducible refine keep_drew ?_ | with_reducible refine keep_cell (by assumption) ?_))))
                (first
                  | (go_at_call 23; (with_reducible refine (KD.out _ ?_).mono ?_); (· repeat (first | with_reducible exact (Below.refl _ _).drew | refine below_step ?_ (by assumption))); rintro e z ⟨rfl, BZ⟩)
                  | (go_at_call 10; (with_reducible refine (KF.out _).mono ?_); rintro e z ⟨rfl, BZ⟩)))
            | fail "end"
          all_goals go_wp2_with fail
          all_goals go_ret
          all_goals refine ⟨rfl, below_step MB.out ?_⟩
          all_goals (repeat (first | with_reducible exact (Below.refl _ _).drew | refine below_step ?_ (by assumption)))
        · have OK : okD s p false = 2 := by unfold okD; rw [if_neg (fun x => pe x.2)]
          have hb : (p == (s.size : Int)) = false := by simpa using pe
          clear pe
          have KD : Hid (∀ Z : World, Below wr.heap.size wr Z → Calls Try.prog 23 #[.pointer (some ⟨g, 0, none⟩)] Z fun e w' => e = .returned (.int .i64 (okD s p false)) ∧ Below Z.heap.size Z w') := fun Z hZ => done_any ((M.box 0 g _ rfl).2.next hZ) hs.out
          rw [OK] at KD
          obtain ⟨k0, k1, k2⟩ := (M.box 1 r _ rfl).2.three
          have MB := Lib.hid M.bl
          clear M OK
          go_wp2_with fail
          first
            | (go_region_held3 (fun w' => w'.cell? ⟨r, 0, none⟩ = some (.string s) ∧ w'.cell? ⟨r, 1, none⟩ = some (.int .i64 p) ∧ w'.cell? ⟨r, 2, none⟩ = some (.bool false))
                ((refine ⟨?_, ?_, ?_⟩ <;> (repeat (first | with_reducible exact k0 | with_reducible exact k1 | with_reducible exact k2 | with_reducible refine keep_drew ?_ | with_reducible refine keep_cell (by assumption) ?_))))
                (first
                  | (go_at_call 23; (with_reducible refine (KD.out _ ?_).mono ?_); (· repeat (first | with_reducible exact (Below.refl _ _).drew | refine below_step ?_ (by assumption))); rintro e z ⟨rfl, BZ⟩)
                  | (go_at_call 10; (with_reducible refine (KF.out _).mono ?_); rintro e z ⟨rfl, BZ⟩)))
            | fail "end"
          all_goals go_wp2_with fail
          all_goals go_ret
          all_goals refine ⟨rfl, below_step MB.out ?_⟩
          all_goals (repeat (first | with_reducible exact (Below.refl _ _).drew | refine below_step ?_ (by assumption)))
      · have OK : okD s p true = 2 := by unfold okD; rw [if_neg (fun x => by cases x.1)]
        have KD : Hid (∀ Z : World, Below wr.heap.size wr Z → Calls Try.prog 23 #[.pointer (some ⟨g, 0, none⟩)] Z fun e w' => e = .returned (.int .i64 (okD s p true)) ∧ Below Z.heap.size Z w') := fun Z hZ => done_any ((M.box 0 g _ rfl).2.next hZ) hs.out
        rw [OK] at KD
        obtain ⟨k0, k1, k2⟩ := (show Box wr.drew r #[.string s, .int .i64 p, .bool true] from (M.box 1 r _ rfl).2).three
        have MB := Lib.hid M.bl
        clear M OK
        go_wp2_with fail
        first
          | (go_region_with (first
                | (go_at_call 23; (with_reducible refine (KD.out _ ?_).mono ?_); (· exact (Below.refl _ _).drew); rintro e z ⟨rfl, BZ⟩; have f2 := keep_cell BZ k2)
                | (go_at_call 10; (with_reducible refine (KF.out _).mono ?_); rintro e z ⟨rfl, BZ⟩)))
          | fail "end"
        all_goals go_wp2_with fail
        all_goals go_ret
        all_goals refine ⟨rfl, below_step MB.out ?_⟩
        all_goals (repeat (first | with_reducible exact (Below.refl _ _).drew | refine below_step ?_ (by assumption)))

set_option maxRecDepth 100000 in
theorem lifted (os : Os) (started : os.Started) (H : Type) (enc : TypeId × Value → H) :
    ReturnsInHanded {} Try.checked os 4 .any (Rows.wireReadsSpec.pre6 enc Try.prog Try.f4 Rows.wireReadsRow.domain false) (Rows.wireReadsSpec.post enc Try.prog Try.f4 false true false false) := by
  refine returnsInHanded_of_change (C := Try.checked) own started (by kernel_rfl) Try.func4
    (ChangeSpec.witness6 (enc := enc) (C := Try.checked) false ⟨#[], #[.string ⟨#[]⟩, .int .i64 0, .bool false, .slice none 0 0], []⟩ 8 (by kernel_rfl) (by kernel_rfl) (by kernel_rfl) (by kernel_rfl)) ?_
  intro W base args ds gs before hval0 hW hcnd _
  have hval : ∀ (j : Nat) t v, Try.f4.params[j]? = some t → args[j]? = some v → Value.okWide Try.prog W .any base t v := hval0
  have hW' := hW
  obtain ⟨p, q, hA0, hV, rfl, _, _⟩ := hW
  have hA : DataW.TrodAll enc Try.prog W 0 (fun _ => true) true Try.f4.params.toList args.toList ds p := hA0
  rw [Try.params4] at hA hval
  obtain ⟨v0, v1, v2, v3, d0, d1, d2, d3, p0, p1, p2, p3, rfl, rfl, rfl, h0t, h1t, h2t, h3t⟩ := trodAll_four hA
  obtain ⟨rfl, rfl⟩ := trodVars_none hV
  obtain ⟨s0, rfl, -, -, hs0⟩ := Go.ChangeMaps.open_string Try.underlying9 (hval 0 9 v0 rfl rfl) h0t
  obtain ⟨x1, rfl, hx1⟩ := open_i64 (hval 1 3 v1 rfl rfl) h1t
  obtain ⟨b2, rfl, -, -⟩ := Go.RowKit.open_bool Try.underlying4 (hval 2 4 v2 rfl rfl) h2t
  obtain ⟨A3, n3, c3, ks3, rfl, hs3⟩ := open_asks (hval 3 38 v3 rfl rfl) h3t
  clear hA0 hval0
  simp only [List.append_nil] at hW'
  have hlt : ∀ x ∈ p0 ++ p1 ++ p2 ++ p3, x.block < W.heap.size := fun x hx => by simpa using hW'.lt x (by simpa using hx)
  refine (walk s0 x1 b2 A3 n3 c3 ks3 W hs3).mono fun e W' ⟨he, hbl⟩ => ?_
  subst he
  refine ⟨_, rfl, post_args hW' (fun _ _ _ => trodAll_mk1 (shut_bool Try.underlying4 _)) ?_ (fun _ => rfl) hbl⟩
  have t0 := Below.trod laidOut readable_str typed_str h0t hbl (fun x hx => hlt x (List.mem_append_left _ (List.mem_append_left _ (List.mem_append_left _ hx))))
  have t1 := Below.trod laidOut readable_int typed_int h1t hbl (fun x hx => hlt x (List.mem_append_left _ (List.mem_append_left _ (List.mem_append_right _ hx))))
  have t2 := Below.trod laidOut readable_bool typed_bool h2t hbl (fun x hx => hlt x (List.mem_append_left _ (List.mem_append_right _ hx)))
  have t3 := Below.trod laidOut readable_asks typed_asks h3t hbl (fun x hx => hlt x (List.mem_append_right _ hx))
  exact (show p0 ++ (p1 ++ (p2 ++ p3)) = p0 ++ p1 ++ p2 ++ p3 by simp only [List.append_assoc]) ▸ trodAll_mk4 t0 t1 t2 t3

theorem proved : Rows.WireReadsSaid :=
  OpenClaim.holds_of_wide 4 Try.f4 rfl rfl rfl rfl rfl rfl rfl ⟨rfl, rfl, rfl, rfl, rfl⟩ rfl rfl rfl rfl rfl (by kernel_rfl) Try.func4 (by kernel_rfl)
    (of_decide_eq_true (by kernel_rfl)) (by unfold Func.isWrapper; first | (rw [if_pos (by decide +kernel)]; kernel_rfl) | (rw [if_neg (by decide +kernel)]; exact ⟨rfl, rfl⟩))
    (fun os started H enc _ => lifted os started H enc)
#print axioms proved
end Go.Proofs.Ytacobmnghdibaaa.wireReads
