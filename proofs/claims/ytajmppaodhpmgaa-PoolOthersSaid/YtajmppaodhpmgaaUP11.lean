/-
  The program: slices.Clone and slices.Insert of backends.
  The program: slices.Insert of backends ahead of the end: with room, and without.
  The program: slices.Insert of backends at any place; slices.Delete of one backend.
-/
import Derived.Test.YtajmppaodhpmgaaSlK2
import Derived.Test.YtajmppaodhpmgaaUCell
import Derived.Lib.Overlaps
import Derived.Shelf.RegionOpen
namespace Go.Proofs.Ytajmppaodhpmgaa
set_option maxRecDepth 100000
open Go.RowKit Go.Lib

section
variable {α : Type} {E : Enc α}
theorem Enc.cells_take (xs : List α) {i : Nat} (hi : i ≤ xs.length) : (E.cells xs).take (i * E.k) = E.cells (xs.take i) := by
  have e : E.cells xs = E.cells (xs.take i) ++ E.cells (xs.drop i) := by rw [← Enc.cells_append, List.take_append_drop]
  have hl : (E.cells (xs.take i)).length = i * E.k := by rw [Enc.cells_len, List.length_take, Nat.min_eq_left hi]
  rw [e, ← hl, List.take_left]
theorem Enc.cells_drop (xs : List α) {i : Nat} (hi : i ≤ xs.length) : (E.cells xs).drop (i * E.k) = E.cells (xs.drop i) := by
  have e : E.cells xs = E.cells (xs.take i) ++ E.cells (xs.drop i) := by rw [← Enc.cells_append, List.take_append_drop]
  have hl : (E.cells (xs.take i)).length = i * E.k := by rw [Enc.cells_len, List.length_take, Nat.min_eq_left hi]
  rw [e, ← hl, List.drop_left]
theorem Enc.cells_one_ (E : Enc α) (x : α) : E.cells [x] = E.f x := List.append_nil _
theorem Enc.cells_ins (E : Enc α) (xs : List α) (i : Nat) (x : α) : E.cells (xs.take i ++ x :: xs.drop i) = E.cells (xs.take i) ++ E.f x ++ E.cells (xs.drop i) := by
  rw [Enc.cells_append, List.append_assoc]
  rfl
/-- What stands in a block from element i on. -/
theorem raw_src {w : World} {g n i : Nat} {cur : List Value} {xs : List α} (hb : Blk w E.T g cur) (ht : cur.take (n * E.k) = E.cells xs) (hn : n = xs.length) (hi : i ≤ n) : ∀ j v, (E.cells (xs.drop i))[j]? = some v → w.cell? ((⟨g, i * E.k, none⟩ : Addr).add j) = some v := fun j v hj => by
  rw [add_plain]
  refine Blk_10.cell hb ?_
  rw [← Enc.cells_drop xs (by omega), ← ht, List.getElem?_drop, List.getElem?_take] at hj
  split at hj
  · exact hj
  · cases hj
end
theorem pcloneB_any {B n : Nat} {A : Option Addr} (c : Nat) {xs : List Bk} (hn : n ≤ 1000000) (w : World) (hB : B ≤ w.heap.size) (h : RdG eB w B A n xs) :
    Calls Try.prog 35 #[.slice A n c] w fun e W' => ∃ v, e = .returned v ∧ OwnG eB W' w.heap.size v xs ∧ Below w.heap.size w W' := by
  cases A with
  | none =>
    have h0 : n = 0 := by
      rcases Nat.eq_zero_or_pos n with h0 | h0
      · exact h0
      · obtain ⟨b, off, e, _⟩ := h.addr h0
        cases e
    subst h0
    obtain rfl : xs = [] := List.eq_nil_of_length_eq_zero h.len
    have hq : ∀ W : World, (binOp .eql 22 (.slice none 0 c) (.slice none 0 0)).run Try.prog W = .ok (.bool true) W := fun W => run_eql_slice_nil W _ _ none 0 c 0 0 Try.underlying22
    clear h hn hB
    go_enter Try.func35, Try.ntmps35
    go_wp2_with fail
    go_ret
    exact ⟨_, rfl, OwnG.nil_ eB _ _, Below.refl _ _⟩
  | some a =>
    have HR := Lib.hid h
    have HN := Lib.hid hn
    have HBB := Lib.hid hB
    have hq : ∀ W : World, (binOp .eql 22 (.slice (some a) n c) (.slice none 0 0)).run Try.prog W = .ok (.bool false) W := fun W => run_eql_slice_nil W _ _ (some a) n c 0 0 Try.underlying22
    clear h hn hB
    go_enter Try.func35, Try.ntmps35
    go_wp2_with (at_builtin; refine wpList_appendG eB rfl _ _ rfl w.heap.size _ [] (by rfl) (OwnG.empty eB w (Nat.le_refl _)) B (some a) n c xs (by rfl) (HR.out.alloc HBB.out _) (by have := HN.out; simp; omega) (by rw [World.size_alloc]; omega) ?_; intro v6 W6 ho6 hg6 hv6; have HO6 := Lib.hid ho6; have HG6 := Lib.hid hg6; clear ho6 hg6 hv6)
    go_ret
    refine ⟨_, rfl, ?_, ((Below.refl w.heap.size w).alloc (Nat.le_refl _) _).grown HG6.out (by rw [World.size_alloc]; omega) (fun k hk => by cases hk; exact Nat.le_refl _)⟩
    have h9 := HO6.out
    rw [List.nil_append] at h9
    exact h9
/-- What Insert answers. -/
def InsGave (w : World) (base : Nat) (v : Value) (ys : List Bk) (e : Ending) (W' : World) : Prop := ∃ v', e = .returned v' ∧ OwnG eB W' base v' ys ∧ w.grownBy W' v.ownBlock
theorem one_rd {w : World} {h : Nat} {x : Bk} (hx : Blk w 36 h (bkL x)) : RdG eB w w.heap.size (some ⟨h, 0, none⟩) 1 [x] :=
  ⟨rfl, fun _ => ⟨h, 0, rfl, Blk_10.lt hx, fun j u hj => by
    rw [Enc.cells_one_ eB x] at hj
    rw [Nat.zero_add]
    exact Blk_10.cell hx hj⟩⟩
set_option maxHeartbeats 4000000 in
theorem pinsert_end {w : World} {base : Nat} {A : Option Addr} {n c : Nat} {xs : List Bk} (hown : OwnG eB w base (.slice A n c) xs) (hbase : base ≤ w.heap.size) (hn : n ≤ 1000000) (x : Bk) (h : Nat) (hx : Blk w 36 h (bkL x)) :
    Calls Try.prog 61 #[.slice A n c, .int .i64 (n : Int), .slice (some ⟨h, 0, none⟩) 1 1] w (InsGave w base (.slice A n c) (xs ++ [x])) := by
  have hs1 := run_fromG eB A n c n (n : Int) rfl (Nat.le_refl _)
  have HO := Lib.hid hown
  have HR := Lib.hid (one_rd hx)
  have HL := Lib.hid (show xs.length = n by obtain ⟨A', m', c', e, hm, _⟩ := hown.sl; cases e; exact hm.symm)
  have HN := Lib.hid hn
  have HBB := Lib.hid hbase
  have hs2 : ∀ W, (Instr.slice 22 (.slice A n c) (some (.int .i64 (n : Int))) none none).run Try.prog W = .ok (.slice (cutG A 27 c n) (n - n) (c - n)) W := hs1
  clear hown hx hn hbase hs1
  go_enter Try.func61, Try.ntmps61
  go_wp2_with (at_builtin; refine wpList_appendG eB rfl _ _ rfl base _ xs (by rfl) HO.out w.heap.size (some ⟨h, 0, none⟩) 1 1 [x] (by rfl) HR.out (by rw [HL.out]; have := HN.out; omega) HBB.out ?_; intro v6 W6 ho6 hg6 hv6; have HO6 := Lib.hid ho6; have HG6 := Lib.hid hg6; clear ho6 hg6 hv6)
  go_ret
  exact ⟨_, rfl, HO6.out, HG6.out⟩
end Go.Proofs.Ytajmppaodhpmgaa
namespace Go.Proofs.Ytajmppaodhpmgaa
set_option maxRecDepth 100000
open Go.RowKit Go.Lib

theorem splG {g : Nat} {cur cs : List Value} {o : Nat} {w w' : World} (h : Spl w eB g cur cs o w') : Blk w' 36 g (spl cur cs o) ∧ w.grownBy w' (some g) := h
/-- What stands there behind both copies. -/
theorem ins_room {cur : List Value} {xs : List Bk} {n c i : Nat} (hl : cur.length = c * 27) (ht : cur.take (n * 27) = eB.cells xs) (hn : n = xs.length) (hi : i ≤ n) (hc : n + 1 ≤ c) (x : Bk) :
    (spl (spl cur (eB.cells (xs.drop i)) ((i + 1) * 27)) (bkL x) (i * 27)).length = c * 27 ∧ (spl (spl cur (eB.cells (xs.drop i)) ((i + 1) * 27)) (bkL x) (i * 27)).take ((n + 1) * 27) = eB.cells (xs.take i ++ x :: xs.drop i) := by
  have hcl : (eB.cells (xs.drop i)).length = (n - i) * 27 := by rw [Enc.cells_len, List.length_drop, ← hn]; rfl
  have hbl : (bkL x).length = 27 := bkL_len x
  have f1 : (i + 1) * 27 + (eB.cells (xs.drop i)).length ≤ cur.length := by rw [hcl, hl]; omega
  have l1 := spl_len f1
  have f2 : i * 27 + (bkL x).length ≤ (spl cur (eB.cells (xs.drop i)) ((i + 1) * 27)).length := by rw [l1, hbl, hl]; omega
  refine ⟨by rw [spl_len f2, l1, hl], ?_⟩
  have t1 : (spl cur (eB.cells (xs.drop i)) ((i + 1) * 27)).take (i * 27) = eB.cells (xs.take i) := by
    have e1 := spl_take f1
    have e2 : ((spl cur (eB.cells (xs.drop i)) ((i + 1) * 27)).take ((i + 1) * 27)).take (i * 27) = (cur.take ((i + 1) * 27)).take (i * 27) := by rw [e1]
    rw [List.take_take, List.take_take, Nat.min_eq_left (by omega)] at e2
    rw [e2]
    have e3 : (cur.take (n * 27)).take (i * 27) = (eB.cells xs).take (i * 27) := by rw [ht]
    rw [List.take_take, Nat.min_eq_left (by omega)] at e3
    rw [e3]
    exact Enc.cells_take (E := eB) xs (by omega)
  have t2 : ((spl cur (eB.cells (xs.drop i)) ((i + 1) * 27)).drop (i * 27 + (bkL x).length)).take ((n - i) * 27) = eB.cells (xs.drop i) := by
    rw [hbl, show i * 27 + 27 = (i + 1) * 27 by omega, spl_drop f1, ← hcl, List.take_left]
  have t3 := spl_mid f2 t1 t2
  rw [hbl, show i * 27 + 27 + (n - i) * 27 = (n + 1) * 27 by omega] at t3
  rw [t3]
  exact (Enc.cells_ins eB xs i x).symm
theorem ins_grow {cur : List Value} {xs : List Bk} {n G i : Nat} (hl : cur.length = G * 27) (ht : cur.take (i * 27) = eB.cells (xs.take i)) (hn : n = xs.length) (hi : i ≤ n) (hG : n + 1 ≤ G) (x : Bk) :
    (spl (spl cur (bkL x) (i * 27)) (eB.cells (xs.drop i)) ((i + 1) * 27)).length = G * 27 ∧ (spl (spl cur (bkL x) (i * 27)) (eB.cells (xs.drop i)) ((i + 1) * 27)).take ((n + 1) * 27) = eB.cells (xs.take i ++ x :: xs.drop i) := by
  have hcl : (eB.cells (xs.drop i)).length = (n - i) * 27 := by rw [Enc.cells_len, List.length_drop, ← hn]; rfl
  have hbl : (bkL x).length = 27 := bkL_len x
  have f1 : i * 27 + (bkL x).length ≤ cur.length := by rw [hbl, hl]; omega
  have l1 := spl_len f1
  have f2 : (i + 1) * 27 + (eB.cells (xs.drop i)).length ≤ (spl cur (bkL x) (i * 27)).length := by rw [l1, hcl, hl]; omega
  refine ⟨by rw [spl_len f2, l1, hl], ?_⟩
  have t1 : (spl cur (bkL x) (i * 27)).take ((i + 1) * 27) = eB.cells (xs.take i) ++ bkL x := by
    have e1 := spl_upto f1
    rw [hbl, show i * 27 + 27 = (i + 1) * 27 by omega, ht] at e1
    exact e1
  have t2 := spl_whole f2 t1 (m := (n + 1) * 27) (by rw [hcl]; omega)
  rw [t2]
  exact (Enc.cells_ins eB xs i x).symm
/-- New memory, and what is written into it. -/
theorem gb2s {a b c : World} (h1 : a.grownBy b none) (h2 : b.grownBy c (some a.heap.size)) : a.grownBy c (some a.heap.size) :=
  ⟨h2.os.trans h1.os, h2.tape.trans h1.tape, h2.output.trans h1.output, Nat.le_trans h1.size h2.size, fun k hk hne => (h2.block k (Nat.lt_of_lt_of_le hk h1.size) hne).trans (h1.block k hk (by simp))⟩
theorem gb2u {a b c : World} {row : Option Nat} (h1 : a.drew.grownBy b row) (h2 : b.grownBy c row) : a.grownBy c row :=
  ⟨h2.os.trans h1.os, h2.tape.trans h1.tape, h2.output.trans h1.output, Nat.le_trans h1.size h2.size, fun k hk hne => (h2.block k (Nat.lt_of_lt_of_le hk h1.size) hne).trans (h1.block k hk hne)⟩
theorem gb2t {a b c : World} {row : Option Nat} (h1 : a.grownBy b (some a.heap.size)) (h2 : b.drew.grownBy c (some a.heap.size)) : a.grownBy c row :=
  ⟨h2.os.trans h1.os, h2.tape.trans h1.tape, h2.output.trans h1.output, Nat.le_trans h1.size h2.size, fun k hk _ => (h2.block k (Nat.lt_of_lt_of_le hk h1.size) (by simp; omega)).trans (h1.block k hk (by simp; omega))⟩
set_option maxHeartbeats 8000000 in
theorem pinsert_grow {w : World} {base g n c : Nat} {xs : List Bk} (hown : OwnG eB w base (.slice (some ⟨g, 0, none⟩) n c) xs) (hbase : base ≤ w.heap.size) (hn : n ≤ 1000000) {i : Nat} (hi : i < n) (hc : c < n + 1) (x : Bk) (h : Nat) (hx : Blk w 36 h (bkL x)) :
    Calls Try.prog 61 #[.slice (some ⟨g, 0, none⟩) n c, .int .i64 (i : Int), .slice (some ⟨h, 0, none⟩) 1 1] w (InsGave w base (.slice (some ⟨g, 0, none⟩) n c) (xs.take i ++ x :: xs.drop i)) := by
  obtain ⟨cur, hb, hl, ht, hbg, hnc, hcm, hxl⟩ := hown.raw
  have hgl := hown.ltS g rfl
  have hhl := Blk_10.lt hx
  have hcl : (eB.cells (xs.take i)).length = i * eB.k := by rw [Enc.cells_len, List.length_take, Nat.min_eq_left (by omega)]
  obtain ⟨G, w3, hrun, hG1, hG2, ⟨cur3, hb3, hl3, ht3⟩, hg3, hz3⟩ := growK eB (w := w) 3 Try.underlying3 g i c (eB.cells (xs.take i)) hcl (fun j v hj => by
    rw [Nat.zero_add]
    refine Blk_10.cell hb ?_
    rw [← Enc.cells_take (E := eB) xs (by omega), ← ht, List.take_take, List.getElem?_take] at hj
    split at hj
    · exact hj
    · cases hj) (n + 1 - i) (by omega) (by omega) (by omega) 22
  have hin : i + (n + 1 - i) = n + 1 := by omega
  rw [hin] at hrun hG1
  have hkk : (n : Int) + 1 - (i : Int) = ((n + 1 - i : Nat) : Int) := by omega
  have HRUN : Hid ((Builtin.append_ #[22, 3] 22 #[.slice (some ⟨g, 0, none⟩) i c, .int .i64 ((n + 1 - i : Nat) : Int)]).run Try.prog w = .ok (.slice (some ⟨w.heap.size, 0, none⟩) (n + 1) G) w3) := Lib.hid hrun
  -- the slices
  have s1 : ∀ W, (Instr.slice 22 (.slice (some ⟨g, 0, none⟩) n c) (some (.int .i64 (i : Int))) none none).run Try.prog W = .ok (.slice (some ⟨g, i * 27, none⟩) (n - i) (c - i)) W := fun W => by
    have h9 := run_fromG eB (some ⟨g, 0, none⟩) n c i (i : Int) rfl (by omega) W
    rw [cutG_in (by omega)] at h9
    exact h9
  have s2 : ∀ W, (Instr.slice 22 (.slice (some ⟨g, 0, none⟩) n c) none (some (.int .i64 (i : Int))) none).run Try.prog W = .ok (.slice (some ⟨g, 0, none⟩) i c) W := run_uptoG eB _ n c i (i : Int) rfl (by omega)
  have s3 : ∀ W, (Instr.slice 22 (.slice (some ⟨w.heap.size, 0, none⟩) (n + 1) G) (some (.int .i64 (i : Int))) none none).run Try.prog W = .ok (.slice (some ⟨w.heap.size, i * 27, none⟩) (n + 1 - i) (G - i)) W := fun W => by
    have h9 := run_fromG eB (some ⟨w.heap.size, 0, none⟩) (n + 1) G i (i : Int) rfl (by omega) W
    rw [cutG_in (by omega)] at h9
    exact h9
  have s4 : ∀ W, (Instr.slice 22 (.slice (some ⟨w.heap.size, 0, none⟩) (n + 1) G) (some (.int .i64 ((i : Int) + 1))) none none).run Try.prog W = .ok (.slice (some ⟨w.heap.size, (i + 1) * 27, none⟩) (n + 1 - (i + 1)) (G - (i + 1))) W := fun W => by
    have h9 := run_fromG eB (some ⟨w.heap.size, 0, none⟩) (n + 1) G (i + 1) ((i : Int) + 1) (by omega) (by omega) W
    rw [cutG_in (by omega)] at h9
    exact h9
  have kn : ((i : Int) == (n : Int)) = false := beq_eq_false_iff_ne.2 (by omega)
  have kn2 : (i == n) = false := beq_eq_false_iff_ne.2 (by omega)
  have kn3 : ¬ (i : Int) = (n : Int) := by omega
  have kc : (c : Int) < (n : Int) + 1 := by omega
  have w1 : IntKind.i64.wrap ((n : Int) + 1) = (n : Int) + 1 := by rw [IntKind.wrap_i64]; omega
  have w2 : IntKind.i64.wrap ((i : Int) + 1) = (i : Int) + 1 := by rw [IntKind.wrap_i64]; omega
  have w4 : IntKind.i64.wrap (((n + 1 - i : Nat) : Int)) = ((n + 1 - i : Nat) : Int) := by rw [IntKind.wrap_i64]; omega
  -- the copies
  have hx3 : Blk w3 36 h (bkL x) := Blk.gb hx hg3 (by simp)
  have hq3 : Blk w3 36 g cur := Blk.gb hb hg3 (by simp)
  have HC1 := Lib.hid (fun ty => copyK eB (w := w3) w.heap.size (i * 27) (n + 1 - i) (G - i) ⟨h, 0, none⟩ 1 1 ty cur3 hb3 1 (Nat.min_eq_left (by omega)) (bkL x) (by rw [bkL_len]; rfl) (fun j v hj => by rw [add_plain, Nat.zero_add]; exact Blk_10.cell hx3 hj) (by rw [hl3, bkL_len]; show i * 27 + 27 ≤ G * 27; omega) (bkL_one x))
  have HQ3 := Lib.hid hq3
  have HG3 := Lib.hid hg3
  have HH := Lib.hid hl3
  have HT3 := Lib.hid ht3
  have HT := Lib.hid ht
  have HXL := Lib.hid hxl
  have HIN := Lib.hid hi
  have HGN := Lib.hid hG1
  have HGM := Lib.hid hG2
  have HNE := Lib.hid (show g ≠ w.heap.size by omega)
  have HBB := Lib.hid hbase
  clear hown hb hl ht hbg hnc hcm hxl hgl hhl hcl hrun hG1 hG2 hb3 hl3 ht3 hg3 hz3 hin hx hx3 hq3 hi hc hn hbase
  go_enter Try.func61, Try.ntmps61
  go_wp2_with (first
    | (at_builtin; refine Lib.wpList_append_run _ rfl _ _ _ _ rfl _ _ rfl rfl _ _ HRUN.out ?_)
    | ((with_reducible show wpList _ _ _ (⟨some 45, _, _, _, _, _⟩ :: _) _ _); refine wpList_copyL rfl _ _ _ _ rfl _ _ (by rfl) (by rfl) _ _ (HC1.out _) ?_; intro w5 h5; have H5 := Lib.hid h5; clear h5))
  have hg5 := (splG H5.out).2
  have hq5 : Blk w5 36 g cur := Blk.gb HQ3.out hg5 (by simp; exact fun e => HNE.out e.symm)
  have hcl : (eB.cells (xs.drop i)).length = (n - i) * 27 := by rw [Enc.cells_len, List.length_drop, ← HXL.out]; rfl
  have HR := Lib.hid (ins_grow HH.out HT3.out HXL.out (Nat.le_of_lt HIN.out) HGN.out x)
  have HC2 := Lib.hid (fun ty => copyK eB (w := w5.drew) w.heap.size ((i + 1) * 27) (n + 1 - (i + 1)) (G - (i + 1)) ⟨g, i * 27, none⟩ (n - i) (c - i) ty _ (Blk_10.drew (splG H5.out).1) (n - i) (Nat.min_eq_left (by have := HIN.out; omega)) (eB.cells (xs.drop i)) (by rw [hcl]; rfl) (raw_src (E := eB) (Blk_10.drew hq5) HT.out HXL.out (Nat.le_of_lt HIN.out)) (by
    have f1 : i * 27 + (bkL x).length ≤ cur3.length := by rw [HH.out, bkL_len]; show i * 27 + 27 ≤ G * 27; have := HIN.out; have := HGN.out; omega
    rw [spl_len f1, hcl, HH.out]
    show (i + 1) * 27 + (n - i) * 27 ≤ G * 27
    have := HIN.out; have := HGN.out; omega) (Enc.cells_one _))
  have HG5 := Lib.hid (gb2s HG3.out hg5)
  clear hg5 hq5 hcl H5 HG3 HQ3
  go_region_law (refine step_copyL rfl _ _ _ _ rfl _ _ (by simp [Act.eval, Act.put]) (by simp [Act.eval, Act.put]) _ _ (HC2.out _) ?_; intro w7 h7; have H7 := Lib.hid h7; clear h7)
  go_wp2_with fail
  go_ret
  exact ⟨_, rfl, OwnG.ofRaw (E := eB) (splG H7.out).1 HR.out.1 (by rw [List.length_append, List.length_take, List.length_cons, List.length_drop, ← HXL.out]; have := HIN.out; omega) HR.out.2 HBB.out HGN.out HGM.out, gb2t HG5.out (splG H7.out).2⟩
set_option maxHeartbeats 8000000 in
theorem pinsert_room {w : World} {base g n c : Nat} {xs : List Bk} (hown : OwnG eB w base (.slice (some ⟨g, 0, none⟩) n c) xs) (hn : n ≤ 1000000) {i : Nat} (hi : i < n) (hc : n + 1 ≤ c) (x : Bk) (h : Nat) (hx : Blk w 36 h (bkL x)) (hne : h ≠ g) :
    Calls Try.prog 61 #[.slice (some ⟨g, 0, none⟩) n c, .int .i64 (i : Int), .slice (some ⟨h, 0, none⟩) 1 1] w (InsGave w base (.slice (some ⟨g, 0, none⟩) n c) (xs.take i ++ x :: xs.drop i)) := by
  obtain ⟨cur, hb, hl, ht, hbg, hnc, hcm, hxl⟩ := hown.raw
  have hl27 : cur.length = c * 27 := hl
  have s1 : ∀ W, (Instr.slice 22 (.slice (some ⟨g, 0, none⟩) n c) (some (.int .i64 (i : Int))) none none).run Try.prog W = .ok (.slice (some ⟨g, i * 27, none⟩) (n - i) (c - i)) W := fun W => by
    have h9 := run_fromG eB (some ⟨g, 0, none⟩) n c i (i : Int) rfl (by omega) W
    rw [cutG_in (by omega)] at h9
    exact h9
  have s2 : ∀ W, (Instr.slice 22 (.slice (some ⟨g, 0, none⟩) n c) none (some (.int .i64 ((n : Int) + 1))) none).run Try.prog W = .ok (.slice (some ⟨g, 0, none⟩) (n + 1) c) W := run_uptoG eB _ n c (n + 1) ((n : Int) + 1) (by omega) (by omega)
  have s3 : ∀ W, (Instr.slice 22 (.slice (some ⟨g, 0, none⟩) (n + 1) c) (some (.int .i64 (i : Int))) none none).run Try.prog W = .ok (.slice (some ⟨g, i * 27, none⟩) (n + 1 - i) (c - i)) W := fun W => by
    have h9 := run_fromG eB (some ⟨g, 0, none⟩) (n + 1) c i (i : Int) rfl (by omega) W
    rw [cutG_in (by omega)] at h9
    exact h9
  have s4 : ∀ W, (Instr.slice 22 (.slice (some ⟨g, 0, none⟩) (n + 1) c) (some (.int .i64 ((i : Int) + 1))) none none).run Try.prog W = .ok (.slice (some ⟨g, (i + 1) * 27, none⟩) (n - i) (c - (i + 1))) W := fun W => by
    have h9 := run_fromG eB (some ⟨g, 0, none⟩) (n + 1) c (i + 1) ((i : Int) + 1) (by omega) (by omega) W
    rw [cutG_in (by omega), show n + 1 - (i + 1) = n - i by omega] at h9
    exact h9
  have hsh : w.shape? h = some (36, 27) := by
    have h9 : w.heap[h]? = some (.cells (bkL x).toArray 36 (0, 0)) := hx
    unfold World.shape?
    rw [h9]
    simp [bkL_len]
  have hsg : w.shape? g = some (36, c * 27) := by
    have h9 : w.heap[g]? = some (.cells cur.toArray 36 (0, 0)) := hb
    unfold World.shape?
    rw [h9]
    simp [hl27]
  have hov : (callFunc 65 #[.slice (some ⟨h, 0, none⟩) 1 1, .slice (some ⟨g, (i + 1) * 27, none⟩) (n - i) (c - (i + 1))]).run Try.prog w = .ok (.value (.bool false)) w := by
    rw [run_callFunc_extern Try.func65 (by kernel_rfl) (by kernel_rfl) (by kernel_rfl) (e := Extern.SlicesOverlaps.overlaps #[22, 22] #[4]) (by kernel_rfl),
      Lib.run_overlaps_apart w 22 4 36 Try.underlying22 27 Try.sizeOf36 ⟨h, 0, none⟩ ⟨g, (i + 1) * 27, none⟩ 1 1 _ _ hne 36 36 27 (c * 27) hsh hsg (by omega) (Blk_10.frozen hx 0) (Blk_10.frozen hx 27)]
    rfl
  have kn : ((i : Int) == (n : Int)) = false := beq_eq_false_iff_ne.2 (by omega)
  have kn2 : (i == n) = false := beq_eq_false_iff_ne.2 (by omega)
  have kn3 : ¬ (i : Int) = (n : Int) := by omega
  have kc : ¬ (c : Int) < (n : Int) + 1 := by omega
  have kc2 : ¬ (n : Int) + 1 > (c : Int) := by omega
  have w1 : IntKind.i64.wrap ((n : Int) + 1) = (n : Int) + 1 := by rw [IntKind.wrap_i64]; omega
  have w2 : IntKind.i64.wrap ((i : Int) + 1) = (i : Int) + 1 := by rw [IntKind.wrap_i64]; omega
  have hcl : (eB.cells (xs.drop i)).length = (n - i) * 27 := by rw [Enc.cells_len, List.length_drop, ← hxl]; rfl
  have f1 : (i + 1) * 27 + (eB.cells (xs.drop i)).length ≤ cur.length := by rw [hcl, hl27]; omega
  have HC1 := Lib.hid (fun ty => copyK eB (w := w.drew) g ((i + 1) * 27) (n - i) (c - (i + 1)) ⟨g, i * 27, none⟩ (n + 1 - i) (c - i) ty cur (Blk_10.drew hb) (n - i) (Nat.min_eq_right (by omega)) (eB.cells (xs.drop i)) (by rw [hcl]; rfl) (raw_src (E := eB) (Blk_10.drew hb) ht hxl (Nat.le_of_lt hi)) f1 (Enc.cells_one _))
  have HR := Lib.hid (ins_room hl27 ht hxl (Nat.le_of_lt hi) hc x)
  have HX := Lib.hid hx
  have HNE := Lib.hid hne
  have HXL := Lib.hid hxl
  have HF2 := Lib.hid (show i * 27 + (bkL x).length ≤ (spl cur (eB.cells (xs.drop i)) ((i + 1) * 27)).length by rw [spl_len f1, bkL_len, hl27]; omega)
  have HIN := Lib.hid hi
  have HCC := Lib.hid hc
  have HCM := Lib.hid hcm
  have HBG := Lib.hid hbg
  clear hown hb hl hl27 ht hbg hnc hcm hxl hsh hsg hx hne hcl f1 hi hc hn
  go_enter Try.func61, Try.ntmps61
  go_wp2_with (simp only [hov])
  go_region_law (refine step_copyL rfl _ _ _ _ rfl _ _ (by simp [Act.eval, Act.put]) (by simp [Act.eval, Act.put]) _ _ (HC1.out _) ?_; intro w7 h7; have H7 := Lib.hid h7; clear h7)
  have hx7 : Blk w7 36 h (bkL x) := Blk.gb (Blk_10.drew HX.out) (splG H7.out).2 (by simp; exact fun e => HNE.out e.symm)
  have HC2 := Lib.hid (fun ty => copyK eB (w := w7) g (i * 27) (n + 1 - i) (c - i) ⟨h, 0, none⟩ 1 1 ty _ (splG H7.out).1 1 (Nat.min_eq_left (by have := HIN.out; omega)) (bkL x) (by rw [bkL_len]; rfl) (fun j v hj => by rw [add_plain, Nat.zero_add]; exact Blk_10.cell hx7 hj) HF2.out (bkL_one x))
  clear hx7 hov
  go_wp2_with ((with_reducible show wpList _ _ _ (⟨some 82, _, _, _, _, _⟩ :: _) _ _); refine wpList_copyL rfl _ _ _ _ rfl _ _ (by rfl) (by rfl) _ _ (HC2.out _) ?_; intro w9 h9; have H9 := Lib.hid h9; clear h9)
  go_ret
  exact ⟨_, rfl, OwnG.ofRaw (E := eB) (splG H9.out).1 HR.out.1 (by rw [List.length_append, List.length_take, List.length_cons, List.length_drop, ← HXL.out]; have := HIN.out; omega) HR.out.2 HBG.out HCC.out HCM.out, gb2u (splG H7.out).2 (splG H9.out).2⟩
end Go.Proofs.Ytajmppaodhpmgaa
namespace Go.Proofs.Ytajmppaodhpmgaa
set_option maxRecDepth 100000
open Go.RowKit Go.Lib

theorem pinsert_any {w : World} {base n c : Nat} {A : Option Addr} {xs : List Bk} (hown : OwnG eB w base (.slice A n c) xs) (hbase : base ≤ w.heap.size) (hn : n ≤ 1000000) {i : Nat} (hi : i ≤ n) (x : Bk) (h : Nat) (hx : Blk w 36 h (bkL x)) (hne : (Value.slice A n c).ownBlock ≠ some h) :
    Calls Try.prog 61 #[.slice A n c, .int .i64 (i : Int), .slice (some ⟨h, 0, none⟩) 1 1] w (InsGave w base (.slice A n c) (xs.take i ++ x :: xs.drop i)) := by
  have hl : xs.length = n := by obtain ⟨A', m', c', e, hm, _⟩ := hown.sl; cases e; exact hm.symm
  by_cases he : i = n
  · subst he
    have h9 := pinsert_end hown hbase hn x h hx
    rw [← hl, List.take_length, List.drop_length]
    rw [← hl] at h9
    exact h9
  · have h0 : 0 < xs.length := by omega
    obtain ⟨g, c', e, _⟩ := hown.form h0
    have eA : A = some ⟨g, 0, none⟩ := by cases e; rfl
    subst eA
    clear e
    by_cases hc : n + 1 ≤ c
    · exact pinsert_room hown hn (by omega) hc x h hx (fun e => hne (by rw [e]; rfl))
    · exact pinsert_grow hown hbase hn (by omega) (by omega) x h hx
/-- s[l:h:m] -/
theorem run_cutmB (g len cap l h m : Nat) (L H M : Int) (hL : L = (l : Int)) (hH : H = (h : Int)) (hM : M = (m : Int)) (h1 : l ≤ h) (h2 : h ≤ m) (h3 : m ≤ cap) (hlm : l < m) (W : World) :
    (Instr.slice 22 (.slice (some ⟨g, 0, none⟩) len cap) (some (.int .i64 L)) (some (.int .i64 H)) (some (.int .i64 M))).run Try.prog W = .ok (.slice (some ⟨g, l * 27, none⟩) (h - l) (m - l)) W := by
  subst hL hH hM
  obtain ⟨i0, hi, hz0, hz1, hz2⟩ := eB.parts
  have ha := run_sliceBound (P := Try.prog) (w := W) .i64 (m : Int) cap .slice3Acap (by omega) (by omega)
  have hb := run_sliceBound (P := Try.prog) (w := W) .i64 (l : Int) h .slice3C (by omega) (by omega)
  have hc := run_sliceBound (P := Try.prog) (w := W) .i64 (h : Int) m .slice3B (by omega) (by omega)
  have hne : ¬ m = l := by omega
  have hz27 : i0.size = 27 := hz1
  have hi2 : Try.prog.info? 36 = some i0 := hi
  simp [Instr.slice, ha, hb, hc, run_underlying Try.underlying22, Instr.sliceBounds, sizeOf, typeInfo, hi2, hz27, hne, add_plain]
/-- What stands there behind both. -/
theorem del_there {cur : List Value} {xs : List Bk} {n c i m : Nat} (hl : cur.length = c * 27) (ht : cur.take (n * 27) = eB.cells xs) (hn : n = xs.length) (hm : n = m + 1) (hi : i < n) (hc : n ≤ c) :
    (spl (spl cur (eB.cells (xs.drop (i + 1))) (i * 27)) (eB.cells (List.replicate 1 bk0)) (m * 27)).length = c * 27 ∧ (spl (spl cur (eB.cells (xs.drop (i + 1))) (i * 27)) (eB.cells (List.replicate 1 bk0)) (m * 27)).take (m * 27) = eB.cells (xs.take i ++ xs.drop (i + 1)) ∧
    i * 27 + (eB.cells (xs.drop (i + 1))).length ≤ cur.length ∧ m * 27 + 1 * 27 ≤ (spl cur (eB.cells (xs.drop (i + 1))) (i * 27)).length := by
  have hcl : (eB.cells (xs.drop (i + 1))).length = (m - i) * 27 := by rw [Enc.cells_len, List.length_drop, ← hn, hm]; show (m + 1 - (i + 1)) * 27 = _; rw [Nat.add_sub_add_right]
  have hzl : (eB.cells (List.replicate 1 bk0)).length = 27 := by rw [Enc.cells_len]; rfl
  have f1 : i * 27 + (eB.cells (xs.drop (i + 1))).length ≤ cur.length := by rw [hcl, hl]; omega
  have l1 := spl_len f1
  have f2 : m * 27 + (eB.cells (List.replicate 1 bk0)).length ≤ (spl cur (eB.cells (xs.drop (i + 1))) (i * 27)).length := by rw [l1, hzl, hl]; omega
  refine ⟨by rw [spl_len f2, l1, hl], ?_, f1, by rw [← hzl]; rw [hzl] at f2 ⊢; omega⟩
  rw [spl_take f2]
  have t1 : cur.take (i * 27) = eB.cells (xs.take i) := by
    have e3 : (cur.take (n * 27)).take (i * 27) = (eB.cells xs).take (i * 27) := by rw [ht]
    rw [List.take_take, Nat.min_eq_left (by omega)] at e3
    rw [e3]
    exact Enc.cells_take (E := eB) xs (by omega)
  have t2 := spl_whole f1 t1 (m := m * 27) (by rw [hcl]; omega)
  rw [t2, Enc.cells_append]
set_option maxHeartbeats 8000000 in
theorem pdelete_any {w : World} {base g n c : Nat} {xs : List Bk} (hown : OwnG eB w base (.slice (some ⟨g, 0, none⟩) n c) xs) (hn : n ≤ 1000000) {i : Nat} (hi : i < n) :
    Calls Try.prog 62 #[.slice (some ⟨g, 0, none⟩) n c, .int .i64 (i : Int), .int .i64 ((i : Int) + 1)] w (InsGave w base (.slice (some ⟨g, 0, none⟩) n c) (xs.take i ++ xs.drop (i + 1))) := by
  obtain ⟨cur, hb, hl, ht, hbg, hnc, hcm, hxl⟩ := hown.raw
  have hl27 : cur.length = c * 27 := hl
  obtain ⟨m, hm⟩ : ∃ m, n = m + 1 := ⟨n - 1, by omega⟩
  obtain ⟨t1, t2, t3, t4⟩ := del_there hl27 ht hxl hm hi hnc
  obtain ⟨ad, had⟩ : ∃ ad, cutG (some ⟨g, 0, none⟩) 27 c (i + 1) = some ad := by
    unfold cutG
    split
    · exact ⟨_, rfl⟩
    · exact ⟨_, rfl⟩
  have hcl : (eB.cells (xs.drop (i + 1))).length = (m - i) * 27 := by rw [Enc.cells_len, List.length_drop, ← hxl, hm]; show (m + 1 - (i + 1)) * 27 = _; rw [Nat.add_sub_add_right]
  have hsrc : ∀ j v, (eB.cells (xs.drop (i + 1)))[j]? = some v → w.cell? (ad.add j) = some v := by
    by_cases hci : i + 1 < c
    · rw [cutG_in hci] at had
      cases had
      exact raw_src (E := eB) hb ht hxl (by omega)
    · intro j v hj
      have h9 := (List.getElem?_eq_some_iff.1 hj).1
      rw [hcl, show m - i = 0 by omega, Nat.zero_mul] at h9
      omega
  have s1 : ∀ W, (Instr.slice 22 (.slice (some ⟨g, 0, none⟩) n c) (some (.int .i64 (i : Int))) (some (.int .i64 ((i : Int) + 1))) (some (.int .i64 (n : Int)))).run Try.prog W = .ok (.slice (some ⟨g, i * 27, none⟩) (i + 1 - i) (n - i)) W := run_cutmB g n c i (i + 1) n _ _ _ rfl (by omega) rfl (by omega) (by omega) hnc (by omega)
  have s2 : ∀ W, (Instr.slice 22 (.slice (some ⟨g, 0, none⟩) n c) none (some (.int .i64 (i : Int))) none).run Try.prog W = .ok (.slice (some ⟨g, 0, none⟩) i c) W := run_uptoG eB _ n c i (i : Int) rfl (by omega)
  have s3 : ∀ W, (Instr.slice 22 (.slice (some ⟨g, 0, none⟩) n c) (some (.int .i64 ((i : Int) + 1))) none none).run Try.prog W = .ok (.slice (some ad) (m - i) (c - (i + 1))) W := fun W => by
    have h9 := run_fromG eB (some ⟨g, 0, none⟩) n c (i + 1) ((i : Int) + 1) (by omega) (by omega) W
    have h8 : cutG (some ⟨g, 0, none⟩) eB.k c (i + 1) = some ad := had
    rw [h8, show n - (i + 1) = m - i by omega] at h9
    exact h9
  have s4 : ∀ W, (Instr.slice 22 (.slice (some ⟨g, 0, none⟩) m c) (some (.int .i64 (m : Int))) (some (.int .i64 (n : Int))) none).run Try.prog W = .ok (.slice (some ⟨g, m * 27, none⟩) 1 (c - m)) W := fun W => by
    have h9 := run_cutG eB (some ⟨g, 0, none⟩) m c m n (m : Int) (n : Int) rfl rfl (by omega) hnc W
    rw [cutG_in (by omega), show n - m = 1 by omega] at h9
    exact h9
  have kn : ((i : Int) == (i : Int) + 1) = false := beq_eq_false_iff_ne.2 (by omega)
  have kn2 : ¬ (i : Int) = (i : Int) + 1 := by omega
  have HA := Lib.hid (fun ty => by
    have h9 := appendK eB (w := w.drew) g i c ad (m - i) (c - (i + 1)) ty cur (Blk_10.drew hb) (eB.cells (xs.drop (i + 1))) (by rw [hcl]; rfl) (by omega) (fun j v hj => hsrc j v hj) t3 (Enc.cells_one _)
    rw [show i + (m - i) = m by omega] at h9
    exact h9)
  have HR := Lib.hid (And.intro t1 t2)
  have HF := Lib.hid t4
  have HXL := Lib.hid hxl
  have HM := Lib.hid hm
  have HIN := Lib.hid hi
  have HCM := Lib.hid hcm
  have HNC := Lib.hid hnc
  have HBG := Lib.hid hbg
  clear hown hb hl hl27 ht hbg hnc hcm hxl t1 t2 t3 t4 had hcl hsrc hm hi hn
  go_enter Try.func62, Try.ntmps62
  go_wp2_with fail
  go_region_law (refine step_appendL rfl _ _ _ _ rfl _ _ (by simp [Act.eval, Act.put]) (by simp [Act.eval, Act.put]) _ _ (HA.out _) ?_; intro w7 h7; have H7 := Lib.hid h7; clear h7)
  have HC2 := Lib.hid (fun ty => clearK eB (w := w7) g (m * 27) 1 (c - m) ty _ (splG H7.out).1 bk0 rfl Nat.zero_lt_one HF.out)
  go_wp2_with ((with_reducible show wpList _ _ _ (⟨none, _, _, _, _, _⟩ :: _) _ _); refine wpList_clearL rfl _ _ rfl _ (by rfl) _ _ (HC2.out _) ?_; intro w9 h9; have H9 := Lib.hid h9; clear h9)
  go_ret
  exact ⟨_, rfl, OwnG.ofRaw (E := eB) (splG H9.out).1 HR.out.1 (by rw [List.length_append, List.length_take, List.length_drop, ← HXL.out]; have := HIN.out; have := HM.out; omega) HR.out.2 HBG.out (by have := HM.out; have := HNC.out; omega) HCM.out, gb2u (splG H7.out).2 (splG H9.out).2⟩
end Go.Proofs.Ytajmppaodhpmgaa
