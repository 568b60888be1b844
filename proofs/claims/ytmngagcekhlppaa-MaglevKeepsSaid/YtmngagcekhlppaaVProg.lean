/-
  The program's rising and mayBe (maglev): shares cloned, sorted, looked through.
  The program's mayBe and begin (maglev).
  The program's begin (maglev): a share's turn, ahead of all slots.
  What the program's Build (maglev) asks ahead of a table: which numbers are sizes, which shares may be.
  What holds while the program's Build (maglev) lays names and turns. No program function is named here but fill.
  The program's Build (maglev), and the contracts that stage 17's laws ask of maglev.
-/
import Derived.Test.YtmngagcekhlppaaVP7
import Derived.Test.YtmngagcekhlppaaVP1
import Derived.Shelf.SlSortCmp.NoneTotal
import Derived.Test.YtmngagcekhlppaaJP2
namespace Go.Proofs.Ytmngagcekhlppaa
set_option maxRecDepth 100000
open Go.RowKit Go.Lib

theorem pclone_any {B n : Nat} {A : Option Addr} (c : Nat) {xs : List Shr} (hn : n ≤ 100000) (w : World) (hB : B ≤ w.heap.size) (h : RdG eS w B A n xs) :
    Calls Try.prog 35 #[.slice A n c] w fun e W' => ∃ v, e = .returned v ∧ OwnG eS W' w.heap.size v xs ∧ Below w.heap.size w W' := by
  cases A with
  | none =>
    have h0 : n = 0 := by
      rcases Nat.eq_zero_or_pos n with h0 | h0
      · exact h0
      · obtain ⟨b, off, e, _⟩ := h.addr h0
        cases e
    subst h0
    obtain rfl : xs = [] := List.eq_nil_of_length_eq_zero h.len
    have hq : ∀ W : World, (binOp .eql 23 (.slice none 0 c) (.slice none 0 0)).run Try.prog W = .ok (.bool true) W := fun W => run_eql_slice_nil W _ _ none 0 c 0 0 Try.underlying23
    clear h hn hB
    go_enter Try.func35, Try.ntmps35
    go_wp2_with fail
    go_ret
    exact ⟨_, rfl, OwnG.nil_ eS _ _, Below.refl _ _⟩
  | some a =>
    have HR := Lib.hid h
    have HN := Lib.hid hn
    have HBB := Lib.hid hB
    have hq : ∀ W : World, (binOp .eql 23 (.slice (some a) n c) (.slice none 0 0)).run Try.prog W = .ok (.bool false) W := fun W => run_eql_slice_nil W _ _ (some a) n c 0 0 Try.underlying23
    clear h hn hB
    go_enter Try.func35, Try.ntmps35
    go_wp2_with (at_builtin; refine wpList_appendG eS rfl _ _ rfl w.heap.size _ [] (by rfl) (OwnG.empty eS w (Nat.le_refl _)) B (some a) n c xs (by rfl) (HR.out.alloc HBB.out _) (by have := HN.out; simp; omega) (by rw [World.size_alloc]; omega) ?_; intro v6 W6 ho6 hg6 hv6; have HO6 := Lib.hid ho6; have HG6 := Lib.hid hg6; clear ho6 hg6 hv6)
    go_ret
    refine ⟨_, rfl, ?_, ((Below.refl w.heap.size w).alloc (Nat.le_refl _) _).grown HG6.out (by rw [World.size_alloc]; omega) (fun k hk => by cases hk; exact Nat.le_refl _)⟩
    have h9 := HO6.out
    rw [List.nil_append] at h9
    exact h9
theorem pcmp_any (x y : Shr) (W : World) : Calls Try.prog 37 #[.agg #[strV x.nm, .int .i64 x.q], .agg #[strV y.nm, .int .i64 y.q]] W fun e w' => e = .returned (.int .i64 (cmpS x y)) ∧ ∃ q os', w' = Go.Sort.grow (W.drewN q) os' := by
  have hcon := Lib.hid (fun W' => Any.strings_Compare strCmp ⟨x.nm.toArray⟩ ⟨y.nm.toArray⟩ W')
  unfold strV cmpS
  have HZ : Hid (∀ W', Calls Try.prog 38 #[.string ⟨x.nm.toArray⟩, .string ⟨y.nm.toArray⟩] W' fun e w' => e = .returned (.int .i64 (Lib.compareBytes x.nm y.nm)) ∧ W' = w') := Lib.hid (fun W' => (hcon.out W').mono fun _ _ h => ⟨h.1, h.2.symm⟩)
  clear hcon
  generalize Lib.compareBytes x.nm y.nm = r at HZ ⊢
  go_enter Try.func37, Try.ntmps37
  go_wp2_with (go_at_call 38; refine (HZ.out _).mono ?_; rintro e w' ⟨rfl, rfl⟩)
  go_ret
  exact ⟨rfl, 0, _, by rw [Go.Sort.alloc_eq_grow, Go.Sort.alloc_eq_grow, Go.Sort.grow_grow]; rfl⟩
theorem cmp_lays (blk off size : Nat) (w : World) : CmpLays Try.prog 37 #[] eS.f 2 cmpS blk off size w := fun _ _ _ _ x y => pcmp_any x y _
theorem psort_any {w : World} {base n c g : Nat} {xs : List Shr} (hn : n ≤ 100000) (h : OwnG eS w base (.slice (some ⟨g, 0, none⟩) n c) xs) :
    Calls Try.prog 36 #[.slice (some ⟨g, 0, none⟩) n c, .func (.func 37) #[] #[]] w fun e W' => e = .returned (.tuple #[]) ∧ ∃ ys, OwnG eS W' base (.slice (some ⟨g, 0, none⟩) n c) ys ∧ ys.Perm xs ∧ SortS ys ∧ w.grownBy W' (some g) := by
  have eg : ∀ args w, (callFunc 37 args).run Try.prog w = .ok (.enter 37 args) w := enters_of Try.func37 (by kernel_rfl) rfl
  have hl := h.lenEq
  subst hl
  have hcon := AnyQ.slices_SortFunc sortShr 2 Try.isAgg48 Try.sizeOf48 eS.f (fun _ => rfl) eS.one cmpS swoS 37 #[] g 0 c xs.toArray w eg (cmp_lays g 0 _ w) h.holds (h.ltS g rfl) (by show xs.length < _; omega)
  refine hcon.mono ?_
  rintro e W' ⟨he, d', m, os, hp, hs, rfl⟩
  obtain ⟨h1, h2⟩ := perm_of hp
  have h3 := h.sorted eS d' h2 m os
  refine ⟨he, d'.toList, h3.1, h1, sort_of d' (by rw [h2]; exact hs), h3.2⟩
theorem prising_any {B n : Nat} {A : Option Addr} (c : Nat) {xs : List Shr} (hn : n ≤ 100000) (w : World) (hB : B ≤ w.heap.size) (h : RdG eS w B A n xs) :
    Calls Try.prog 26 #[.slice A n c] w fun e W' => ∃ v ys, e = .returned v ∧ OwnG eS W' w.heap.size v ys ∧ ys.Perm xs ∧ SortS ys ∧ Below w.heap.size w W' := by
  have HC := Lib.hid (pclone_any c hn w hB h)
  have HXL := Lib.hid h.len
  have HN := Lib.hid hn
  clear h hB hn
  go_enter Try.func26, Try.ntmps26
  go_upto_region 2 with (go_at_call 35; refine HC.out.mono ?_; rintro e W1 ⟨v, rfl, hown, hb⟩; have HO := Lib.hid hown; have HB := Lib.hid hb; clear hown hb)
  rcases HO.out.2 with ⟨rfl, h0⟩ | ⟨g, cap, cur, rfl, hbg, hg, hnc, hcm, hcs, ht⟩
  · have HZ := Lib.hid (fun W => AnyF.slices_SortFunc_none sortShr none 0 (.func (.func 37) #[] #[]) W)
    obtain rfl : xs = [] := List.eq_nil_of_length_eq_zero h0
    have hz : ∀ W, Calls Try.prog 36 #[.slice none 0 0, .func (.func 37) #[] #[]] W fun e w' => e = .returned (.tuple #[]) ∧ W = w' := fun W => (HZ.out W).mono fun _ _ h => ⟨h.1, h.2.symm⟩
    clear h0
    go_wp2_with (go_at_call 36; refine (hz _).mono ?_; rintro e w' ⟨rfl, rfl⟩)
    go_ret
    exact ⟨_, [], rfl, OwnG.nil_ eS _ _, List.Perm.refl _, List.Pairwise.nil, HB.out⟩
  · clear hbg hg hnc hcm hcs ht
    have hz := Lib.hid (psort_any (by rw [HXL.out]; exact HN.out) HO.out)
    go_wp2_with (go_at_call 36; refine (hz.out).mono ?_; rintro e w' ⟨rfl, ys, ho2, hp2, hs2, hg2⟩; have HO2 := Lib.hid ho2; have HP2 := Lib.hid hp2; have HS2 := Lib.hid hs2; have HG2 := Lib.hid hg2; clear ho2 hp2 hs2 hg2)
    go_ret
    exact ⟨_, ys, rfl, HO2.out, HP2.out, HS2.out, HB.out.grown HG2.out HB.out.size (fun k hk => by cases hk; exact HO.out.lt _ rfl)⟩
end Go.Proofs.Ytmngagcekhlppaa
namespace Go.Proofs.Ytmngagcekhlppaa
set_option maxRecDepth 100000
open Go.RowKit Go.Lib

def MayGave (e : Ending) (P : Prop) : Prop := ∃ r, e = .returned (.bool r) ∧ (r = true ↔ P)
set_option maxHeartbeats 8000000 in
theorem pmaybe_any {B n : Nat} {A : Option Addr} (c : Nat) {ys : List Shr} (hn : n ≤ 100000) (w : World) (hB : B ≤ w.heap.size) (h : RdG eS w B A n ys) :
    Calls Try.prog 27 #[.slice A n c] w fun e w' => MayGave e (okTo ys ys.length) ∧ Below w.heap.size w w' := by
  have HR := Lib.hid (h.more hB)
  have HN := Lib.hid hn
  clear h hB
  go_enter Try.func27, Try.ntmps27
  go_wp2_with fail
  go_loopw [7] (fun i wr => ∃ k : Nat, k ≤ n ∧ i = .int .i64 (k : Int) ∧ Hid (okTo ys k) ∧ Below w.heap.size w wr)
    (fun i _ => n - (intOf i).toNat)
  case atStart => exact ⟨0, Nat.zero_le _, rfl, Lib.hid (fun i x hi _ => absurd hi (by omega)), Below.refl _ _⟩
  case round =>
    obtain ⟨k, hk, rfl, HK, hbel⟩ := hrel
    have HBE := Lib.hid hbel
    clear hbel
    by_cases hlt : k < n
    · have h1 : (k : Int) < (n : Int) := by omega
      have h0 : (0 : Int) ≤ (k : Int) := by omega
      obtain ⟨b, off, rfl, hbb⟩ := HR.out.addr (by omega)
      obtain ⟨x, hx⟩ : ∃ x, ys[k]? = some x := ⟨_, List.getElem?_eq_getElem (by rw [HR.out.len]; exact hlt)⟩
      have hr := (HR.out.below HBE.out)
      have c0 := hr.name hx
      have c1 := hr.quanta hx
      have HX := Lib.hid hx
      have HLT := Lib.hid hlt
      have HNO := Lib.hid (fun (hno : ¬ ((0 ≤ x.q ∧ x.q ≤ 1024000) ∧ ∀ y, 0 < k → ys[k - 1]? = some y → y.nm ≠ x.nm)) (ha : okTo ys ys.length) => hno (ha k x (by rw [HR.out.len]; exact hlt) hx))
      have HYE := Lib.hid (fun (hq : 0 ≤ x.q ∧ x.q ≤ 1024000) (hm : ∀ y, 0 < k → ys[k - 1]? = some y → y.nm ≠ x.nm) => HK.out.succ hx hq hm)
      have HPR : Hid (0 < k → ∃ y, ys[k - 1]? = some y) := Lib.hid (fun h5 => ⟨_, List.getElem?_eq_getElem (by rw [HR.out.len]; omega)⟩)
      obtain ⟨q, hq⟩ : ∃ q, x.q = q := ⟨_, rfl⟩
      rw [hq] at c1 HNO HYE
      have HBL := Lib.hid (show b < wr.heap.size by have h9 := HBE.out.size; omega)
      clear hr hx hq hlt hk hbb hn
      go_wp2_with fail
      have HRY := Lib.hid ((HR.out.below HBE.out).alloc HBE.out.size (.cells #[.string ⟨x.nm.toArray⟩, .int .i64 q] 48))
      have HBY := Lib.hid (HBE.out.alloc HBE.out.size (.cells #[.string ⟨x.nm.toArray⟩, .int .i64 q] 48))
      have HGY := Lib.hid (Blk_10.new wr 48 [.string ⟨x.nm.toArray⟩, .int .i64 q])
      have y0 := HGY.out.cell (i := 0) rfl
      have y1 := HGY.out.cell (i := 1) rfl
      have HKN : Hid (k < 100000) := Lib.hid (by have h9 := HLT.out; have h8 := HN.out; omega)
      generalize wr.heap.size = g at HGY HBL y0 y1 ⊢
      generalize wr.alloc (.cells #[.string ⟨x.nm.toArray⟩, .int .i64 q] 48) = Y at HRY HBY HGY y0 y1 ⊢
      clear c0 c1 h1
      by_cases hq0 : q < 0
      · have hd : decide (q < 0) = true := decide_eq_true hq0
        go_quiet (fail)
        go_wp2_with fail
        go_ret
        exact ⟨⟨false, rfl, ⟨fun h => (by cases h), fun h => absurd h (HNO.out (fun h9 => by have h8 := h9.1.1; omega))⟩⟩, ⟨HBY.out.os, HBY.out.tape, HBY.out.output, HBY.out.size, HBY.out.block⟩⟩
      · have hd : decide (q < 0) = false := decide_eq_false hq0
        by_cases hq1 : 1024000 < q
        · have hd1 : decide (1024000 < q) = true := decide_eq_true hq1
          go_quiet (fail)
          go_wp2_with fail
          go_ret
          exact ⟨⟨false, rfl, ⟨fun h => (by cases h), fun h => absurd h (HNO.out (fun h9 => by have h8 := h9.1.2; omega))⟩⟩, ⟨HBY.out.os, HBY.out.tape, HBY.out.output, HBY.out.size, HBY.out.block⟩⟩
        · have hd1 : decide (1024000 < q) = false := decide_eq_false hq1
          rcases Nat.eq_zero_or_pos k with hk0 | hk0
          · subst hk0
            go_quiet (fail)
            go_wp2_with fail
            go_roundw
            case rel => exact ⟨0 + 1, HLT.out, rfl, Lib.hid (HYE.out ⟨by omega, by omega⟩ (fun y h8 h9 => absurd h8 (by omega))), ⟨HBY.out.os, HBY.out.tape, HBY.out.output, HBY.out.size, HBY.out.block⟩⟩
            case measure =>
              have := HLT.out
              simp [intOf]
              omega
          · obtain ⟨y, hy⟩ := HPR.out hk0
            obtain ⟨m, hm⟩ : ∃ m, k = m + 1 := ⟨k - 1, by omega⟩
            have hy2 : ys[m]? = some y := by rw [show m = k - 1 by omega]; exact hy
            have z0 := HRY.out.name hy2
            have hd2 : decide (0 < (k : Int)) = true := decide_eq_true (by omega)
            have hd3 : decide (0 < k) = true := decide_eq_true hk0
            have k4 : (0 : Int) < (k : Int) := by omega
            have k5 : (k : Int) - 1 = (m : Int) := by omega
            have k6 : (m : Int) < (n : Int) := by have h9 := HLT.out; omega
            have k7 : (0 : Int) ≤ (m : Int) := by omega
            have k8 : m < 100000 := by have h9 := HKN.out; omega
            have HYY := Lib.hid hy
            have HK0 := Lib.hid hk0
            clear hy hy2 hm hk0
            by_cases he : y.nm = x.nm
            · have HE := Lib.hid he
              rw [he] at z0
              clear he
              go_quiet (fail)
              go_wp2_with fail
              go_ret
              exact ⟨⟨false, rfl, ⟨fun h => (by cases h), fun h => absurd h (HNO.out (fun h9 => h9.2 y HK0.out HYY.out HE.out))⟩⟩, ⟨HBY.out.os, HBY.out.tape, HBY.out.output, HBY.out.size, HBY.out.block⟩⟩
            · have hb : (y.nm == x.nm) = false := beq_eq_false_iff_ne.2 he
              have HE := Lib.hid he
              clear he
              go_quiet (fail)
              go_wp2_with fail
              go_roundw
              case rel => exact ⟨k + 1, HLT.out, (by have := HLT.out; go_num), Lib.hid (HYE.out ⟨by omega, by omega⟩ (fun y h8 h9 => by rw [HYY.out] at h9; cases h9; exact HE.out)), ⟨HBY.out.os, HBY.out.tape, HBY.out.output, HBY.out.size, HBY.out.block⟩⟩
              case measure =>
                have := HLT.out
                simp [intOf]
                omega
    · obtain rfl : k = n := by omega
      have h1 : ¬ (k : Int) < (k : Int) := by omega
      have HL := Lib.hid HR.out.len
      clear hlt hk
      go_wp2_with fail
      go_ret
      exact ⟨⟨true, rfl, fun _ => by rw [HL.out]; exact HK.out, fun _ => rfl⟩, HBE.out⟩
end Go.Proofs.Ytmngagcekhlppaa
namespace Go.Proofs.Ytmngagcekhlppaa
set_option maxRecDepth 100000
open Go.RowKit Go.Lib

theorem size5_turn : (Try.prog.info? 55).map (·.size) = some 5 := by kernel_rfl
theorem results_tr {fn : Func} {p : Tmp} (hr : fn.results = #[.cell p 55]) (tmps : Array Value) (w : World) (g : Nat) (hp : tmps.getD p undef = .pointer (some ⟨g, 0, none⟩)) (a b c d e : Value) (hb : Blk w 55 g [a, b, c, d, e]) :
    (results fn tmps).run Try.prog w = .ok (.agg #[a, b, c, d, e]) w := by
  have hl := run_loadVar_mid (P := Try.prog) w g 0 55 [a, b, c, d, e] _ (Blk_10.range hb) Try.underlying55 rfl size5_turn
  rw [results_cell0 hr, hp]
  simp [Result.andThen, asAddr, hl]
set_option maxHeartbeats 8000000 in
theorem mbegin_any (key : List UInt8) (hk : key.length = 16) (x : Shr) (q : Nat) (hq : x.q = (q : Int)) (hl : x.nm.length ≤ 60) (p : Nat) (hp : SizeN p) (w : World) :
    Calls Try.prog 28 #[keyC key, .int .i64 (p : Int), .agg #[strV x.nm, .int .i64 (q : Int)]] w fun e w' => e = .returned (.agg (eT.f (trOf key p x)).toArray) ∧ Below w.heap.size w w' := by
  obtain ⟨C0, hC0⟩ : ∃ C, (key.map v8).toArray = C := ⟨_, rfl⟩
  obtain ⟨Y1, hY1⟩ : ∃ Y, w.alloc (.cells C0 22) = Y := ⟨_, rfl⟩
  obtain ⟨Y2, hY2⟩ : ∃ Y, Y1.alloc (.cells #[strV x.nm, .int .i64 (q : Int)] 48) = Y := ⟨_, rfl⟩
  obtain ⟨Y, hY⟩ : ∃ Y, Y2.alloc (.cells #[.int .i64 0, .int .i64 0, .int .i64 0, .int .i64 0, .int .i64 0] 55) = Y := ⟨_, rfl⟩
  have hs1 : Y1.heap.size = w.heap.size + 1 := by rw [← hY1]; simp
  have hs2 : Y2.heap.size = w.heap.size + 2 := by rw [← hY2]; simp [hs1]
  have HB0 := Lib.hid (show Below w.heap.size w Y by rw [← hY, ← hY2, ← hY1]; exact (((Below.refl w.heap.size w).alloc (Nat.le_refl _) _).alloc (by simp) _).alloc (by simp; omega) _)
  have HK0 := Lib.hid (show Blk Y 22 w.heap.size (key.map v8) by rw [← hY, ← hY2, ← hY1, ← hC0]; exact ((Blk_10.new w _ _).alloc _).alloc _)
  have HS0 := Lib.hid (show Blk Y 48 (w.heap.size + 1) [strV x.nm, .int .i64 (q : Int)] by rw [← hY, ← hY2, ← hs1]; exact (Blk_10.new Y1 _ [strV x.nm, .int .i64 (q : Int)]).alloc _)
  have HT0 := Lib.hid (show Blk Y 55 (w.heap.size + 2) [.int .i64 0, .int .i64 0, .int .i64 0, .int .i64 0, .int .i64 0] by rw [← hY, ← hs2]; exact Blk_10.new Y2 _ [.int .i64 0, .int .i64 0, .int .i64 0, .int .i64 0, .int .i64 0])
  have HY := Lib.hid (show ((w.alloc (.cells C0 22)).alloc (.cells #[.string ⟨x.nm.toArray⟩, .int .i64 (q : Int)] 48)).alloc (.cells #[.int .i64 0, .int .i64 0, .int .i64 0, .int .i64 0, .int .i64 0] 55) = Y by rw [← hY, ← hY2, ← hY1]; rfl)
  have HKE : Hid (keyC key = .agg C0) := Lib.hid (by rw [← hC0]; rfl)
  have HKL := Lib.hid hk
  have HOF : Hid (∀ W : World, Calls Try.prog 39 #[.agg (key.map v8).toArray, .string ⟨x.nm.toArray⟩, .int .i64 (p : Int)] W fun e w' => e = .returned (.tuple #[.int .i64 (offN key x.nm p : Nat), .int .i64 (skN key x.nm p : Nat)]) ∧ Below W.heap.size W w') := Lib.hid (fun W => ppof_any key hk ⟨x.nm.toArray⟩ (Nat.le_trans hl (by decide)) p hp W)
  have HTR : Hid (eT.f (trOf key p x) = [.int .i64 (q : Int), .int .i64 0, .int .i64 (offN key x.nm p : Nat), .int .i64 (skN key x.nm p : Nat), .int .i64 0]) := Lib.hid (by
    unfold trOf
    rw [hq]
    rfl)
  obtain ⟨a, ha⟩ : ∃ a, offN key x.nm p = a := ⟨_, rfl⟩
  obtain ⟨b, hb⟩ : ∃ b, skN key x.nm p = b := ⟨_, rfl⟩
  rw [ha, hb] at HOF HTR
  rw [HTR.out, HKE.out]
  unfold strV
  have HSZ := Lib.hid (show Y.heap.size = w.heap.size + 3 by rw [← hY]; simp [hs2])
  clear hC0 hY1 hY2 hY hs1 hs2 hk hl hp hq ha hb HTR HKE
  go_enter Try.func28, Try.ntmps28
  go_upto_region 1 with (fail)
  rw [HY.out]
  have c0 := HS0.out.cell (i := 0) rfl
  unfold strV at c0
  go_wp2_with (first
    | ((with_reducible show wpList _ _ _ (⟨some 10, _, _, _, _, _⟩ :: _) _ _); refine wpList_loadM (op := ⟨some 10, _, _, _, _, _⟩) 22 _ rfl (by rfl) w.heap.size 0 (by rfl) (key.map v8) (Blk_10.range HK0.out) _ Try.underlying22 rfl (keyp_size HKL.out) ?_)
    | (with_reducible refine (HOF.out Y).mono ?_; rintro e w1 ⟨rfl, hb1⟩; have HB1 := Lib.hid (HB0.out.trans (hb1.mono HB0.out.size)); have HS1 := Lib.hid (Blk_10.below HS0.out (Blk_10.lt HS0.out) hb1); have HT1 := Lib.hid (Blk_10.below HT0.out (Blk_10.lt HT0.out) hb1); clear hb1; have c1 := HS1.out.cell (i := 1) rfl)
    | ((with_reducible show wpList _ _ _ (⟨none, _, _, _, _, _⟩ :: _) _ _); refine wpList_storeBA (op := ⟨none, _, _, _, _, _⟩) rfl 55 (.tmp 6) (.tmp 21) rfl (w.heap.size + 2) (by rfl) [.int .i64 (q : Int), .int .i64 0, .int .i64 (a : Int), .int .i64 (b : Int), .int .i64 0] (by rfl) _ HT1.out rfl size5_turn (fun v hv => by simp only [List.mem_cons, List.not_mem_nil, or_false] at hv; rcases hv with rfl | rfl | rfl | rfl | rfl <;> rfl) ?_; intro W9 hb9 hg9; have HB9 := Lib.hid hb9; have HG9 := Lib.hid hg9; clear hb9 hg9))
  refine bodyPost_ret (results_tr rfl _ _ (w.heap.size + 2) (by rfl) _ _ _ _ _ HB9.out) rfl ?_
  exact ⟨rfl, HB1.out.grown HG9.out HB1.out.size (fun k hk => by cases hk; omega)⟩
end Go.Proofs.Ytmngagcekhlppaa
namespace Go.Proofs.Ytmngagcekhlppaa
set_option maxRecDepth 100000
open Go.RowKit Go.Lib

theorem next_size {p : Nat} (h : SizeN p) : nextN (p : Int) = p := by
  have h1 := nextN_size (z := (p : Int)) (by have := h.most; omega)
  rcases Nat.lt_or_ge p (nextN (p : Int)) with h2 | h2
  · have h3 := nextN_between (z := (p : Int)) (by have := h.most; omega) p (Int.le_refl _) h2
    rw [h.prime] at h3
    cases h3
  · omega
theorem next_none {z : Int} (h : ¬ (0 ≤ z ∧ SizeN z.toNat)) : ((nextN z : Nat) : Int) ≠ z := by
  intro e
  apply h
  refine ⟨by omega, ?_⟩
  have h2 : z.toNat = nextN z := by omega
  rw [h2]
  rcases Int.lt_or_le 65537 z with h3 | h3
  · exfalso
    have h4 : nextN z = 0 := by
      unfold nextN lowN
      rw [if_neg (by omega), show 65538 - z.toNat = 0 by omega]
      rfl
    omega
  · exact (nextN_size h3).1
theorem results_tbt {fn : Func} {p u : Tmp} (hr : fn.results = #[.cell p 30, .tmp u]) (tmps : Array Value) (w : World) (g : Nat) (hp : tmps.getD p undef = .pointer (some ⟨g, 0, none⟩)) (a b : Value) (hb : Blk w 30 g [a, b])
    (v : Value) (hu : tmps.getD u undef = v) : (results fn tmps).run Try.prog w = .ok (.tuple #[tblV a b, v]) w := by
  have hl := run_loadVar_mid (P := Try.prog) w g 0 30 [a, b] _ (Blk_10.range hb) Try.underlying30 rfl size2_table
  rw [results_cell_tmp hr, hp, hu]
  simp [Result.andThen, asAddr, hl, tblV]
set_option maxHeartbeats 8000000 in
theorem pbuild_size (key : List UInt8) (z : Int) (h2 : z ≤ 9223372036854775807) (A : Option Addr) (n c : Nat) (hz : ¬ (0 ≤ z ∧ SizeN z.toNat)) (w : World) :
    Calls Try.prog 12 #[keyC key, .int .i64 z, .slice A n c] w fun e W' => e = .returned (.tuple #[tblV (.slice none 0 0) (.slice none 0 0), .int .i64 1]) ∧ Below w.heap.size w W' := by
  obtain ⟨C0, hC0⟩ : ∃ C, (key.map v8).toArray = C := ⟨_, rfl⟩
  have HKE : Hid (keyC key = .agg C0) := Lib.hid (by rw [← hC0]; rfl)
  rw [HKE.out]
  obtain ⟨Y1, hY1⟩ : ∃ Y, w.alloc (.cells C0 22) = Y := ⟨_, rfl⟩
  obtain ⟨Y, hY⟩ : ∃ Y, Y1.alloc (.cells #[.slice none 0 0, .slice none 0 0] 30) = Y := ⟨_, rfl⟩
  have hs1 : Y1.heap.size = w.heap.size + 1 := by rw [← hY1]; simp
  have HB0 := Lib.hid (show Below w.heap.size w Y by rw [← hY, ← hY1]; exact ((Below.refl w.heap.size w).alloc (Nat.le_refl _) _).alloc (by simp) _)
  have HT0 := Lib.hid (show Blk Y 30 (w.heap.size + 1) [.slice none 0 0, .slice none 0 0] by rw [← hY, ← hs1]; exact Blk_10.new Y1 _ [.slice none 0 0, .slice none 0 0])
  have HY := Lib.hid (show (w.alloc (.cells C0 22)).alloc (.cells #[.slice none 0 0, .slice none 0 0] 30) = Y by rw [← hY, ← hY1])
  have hne : (((nextN z : Nat) : Int) != z) = true := bne_iff_ne.2 (next_none hz)
  have HN := Lib.hid (fun W => pnext_any z h2 W)
  obtain ⟨m, hm⟩ : ∃ m, nextN z = m := ⟨_, rfl⟩
  rw [hm] at hne HN
  clear hC0 hY1 hY hs1 hm hz h2 HKE
  go_enter Try.func12, Try.ntmps12
  go_upto_region 1 with (fail)
  rw [HY.out]
  go_wp2_with (first
    | (go_at_call 25; refine (HN.out _).mono ?_; rintro e w' ⟨rfl, rfl⟩)
    | ((with_reducible show wpList _ _ _ (⟨none, _, _, _, _, _⟩ :: _) _ _); refine wpList_storeBA (op := ⟨none, _, _, _, _, _⟩) rfl 30 (.tmp 6) (.tmp 21) rfl (w.heap.size + 1) (by rfl) [.slice none 0 0, .slice none 0 0] (by rfl) _ HT0.out rfl size2_table (fun v hv => by simp only [List.mem_cons, List.not_mem_nil, or_false] at hv; rcases hv with rfl | rfl <;> rfl) ?_; intro W9 hb9 hg9; have HB9 := Lib.hid hb9; have HG9 := Lib.hid hg9; clear hb9 hg9))
  refine bodyPost_ret (results_tbt rfl _ _ (w.heap.size + 1) (by rfl) _ _ HB9.out (.int .i64 1) (by rfl)) rfl ?_
  exact ⟨rfl, HB0.out.grown HG9.out HB0.out.size (fun k hk => by cases hk; omega)⟩
set_option maxHeartbeats 8000000 in
theorem pbuild_no (key : List UInt8) (p : Nat) (hp : SizeN p) {B n : Nat} {A : Option Addr} (c : Nat) {xs : List Shr} (hn : n ≤ 1024) (hm : ¬ MayS xs) (w : World) (hB : B ≤ w.heap.size) (h : RdG eS w B A n xs) :
    Calls Try.prog 12 #[keyC key, .int .i64 (p : Int), .slice A n c] w fun e W' => e = .returned (.tuple #[tblV (.slice none 0 0) (.slice none 0 0), .int .i64 1]) ∧ Below w.heap.size w W' := by
  obtain ⟨C0, hC0⟩ : ∃ C, (key.map v8).toArray = C := ⟨_, rfl⟩
  have HKE : Hid (keyC key = .agg C0) := Lib.hid (by rw [← hC0]; rfl)
  rw [HKE.out]
  obtain ⟨Y1, hY1⟩ : ∃ Y, w.alloc (.cells C0 22) = Y := ⟨_, rfl⟩
  obtain ⟨Y, hY⟩ : ∃ Y, Y1.alloc (.cells #[.slice none 0 0, .slice none 0 0] 30) = Y := ⟨_, rfl⟩
  have hs1 : Y1.heap.size = w.heap.size + 1 := by rw [← hY1]; simp
  have HB0 := Lib.hid (show Below w.heap.size w Y by rw [← hY, ← hY1]; exact ((Below.refl w.heap.size w).alloc (Nat.le_refl _) _).alloc (by simp) _)
  have HT0 := Lib.hid (show Blk Y 30 (w.heap.size + 1) [.slice none 0 0, .slice none 0 0] by rw [← hY, ← hs1]; exact Blk_10.new Y1 _ [.slice none 0 0, .slice none 0 0])
  have HY := Lib.hid (show (w.alloc (.cells C0 22)).alloc (.cells #[.slice none 0 0, .slice none 0 0] 30) = Y by rw [← hY, ← hY1])
  have hne : ((p : Int) != (p : Int)) = false := by simp
  have hne2 : ¬ 1024 < (n : Int) := by omega
  have HN : Hid (∀ W, Calls Try.prog 25 #[.int .i64 (p : Int)] W fun e w' => e = .returned (.int .i64 (p : Int)) ∧ W = w') := Lib.hid (fun W => by
    have h9 := pnext_any (p : Int) (by have := hp.most; omega) W
    rw [next_size hp] at h9
    exact h9)
  have HRI := Lib.hid (prising_any c (by omega) Y HB0.out.size ((h.below (HB0.out.mono hB)).more hB))
  have HXL := Lib.hid h.len
  have HMM := Lib.hid hm
  have HNN := Lib.hid hn
  clear hC0 hY1 hY hs1 hp HKE h hB hm hn
  go_enter Try.func12, Try.ntmps12
  go_upto_region 1 with (fail)
  rw [HY.out]
  go_upto_region 4 with (first
    | (go_at_call 25; refine (HN.out _).mono ?_; rintro e w' ⟨rfl, rfl⟩)
    | (go_at_call 26; refine HRI.out.mono ?_; rintro e W1 ⟨v, ys, rfl, hown, hperm, hsort, hb⟩; obtain ⟨A1, m, c1, rfl, hm1, hmc, hcm, hrd, _⟩ := hown.sl; have HRD := Lib.hid hrd; have HPE := Lib.hid hperm; have HSO := Lib.hid hsort; have HB1 := Lib.hid (HB0.out.trans (hb.mono HB0.out.size)); have HT1 := Lib.hid (Blk_10.below HT0.out (Blk_10.lt HT0.out) hb); have HM1 := Lib.hid hm1; clear hown hperm hsort hb hmc hcm hrd hm1))
  have HMB := Lib.hid (pmaybe_any c1 (by have h9 := HM1.out; have h8 := HPE.out.length_eq; have h7 := HXL.out; have h6 := HNN.out; omega) W1 (Nat.le_refl _) HRD.out)
  go_wp2_with (first
    | (go_at_call 27; refine HMB.out.mono ?_; rintro e W2 ⟨⟨r, rfl, hr⟩, hb⟩; obtain rfl : r = false := (by cases r with | false => rfl | true => exact absurd ((hr.1 rfl).may HSO.out HPE.out (by rw [HXL.out]; exact HNN.out)) HMM.out); have HB2 := Lib.hid (HB1.out.trans (hb.mono HB1.out.size)); have HT2 := Lib.hid (Blk_10.below HT1.out (Blk_10.lt HT1.out) hb); clear hr hb)
    | ((with_reducible show wpList _ _ _ (⟨none, _, _, _, _, _⟩ :: _) _ _); refine wpList_storeBA (op := ⟨none, _, _, _, _, _⟩) rfl 30 (.tmp 6) (.tmp 27) rfl (w.heap.size + 1) (by rfl) [.slice none 0 0, .slice none 0 0] (by rfl) _ HT2.out rfl size2_table (fun v hv => by simp only [List.mem_cons, List.not_mem_nil, or_false] at hv; rcases hv with rfl | rfl <;> rfl) ?_; intro W9 hb9 hg9; have HB9 := Lib.hid hb9; have HG9 := Lib.hid hg9; clear hb9 hg9))
  refine bodyPost_ret (results_tbt rfl _ _ (w.heap.size + 1) (by rfl) _ _ HB9.out (.int .i64 1) (by rfl)) rfl ?_
  exact ⟨rfl, HB2.out.grown HG9.out HB2.out.size (fun k hk => by cases hk; omega)⟩
end Go.Proofs.Ytmngagcekhlppaa
namespace Go.Proofs.Ytmngagcekhlppaa
set_option maxRecDepth 100000
open Go.RowKit Go.Lib

/-- The table's block g holds the names tn and no slots; names nl are owned as nv, turns tl as tv; what is older than g stays. -/
structure L5 (w1 : World) (g : Nat) (nl : List (List UInt8)) (tl : List Trn) (tn nv tv : Value) (w : World) : Prop where
  t : Blk w 30 g [tn, .slice none 0 0]
  names : OwnG eN w (g + 1) nv nl
  turns : OwnG eT w (g + 1) tv tl
  dis : ∀ b, nv.ownBlock = some b → tv.ownBlock ≠ some b
  bel : Below g w1 w
  size : g + 1 ≤ w.heap.size
variable {w1 w w' : World} {g : Nat} {nl nl' : List (List UInt8)} {tl tl' : List Trn} {tn nv nv' tv tv' : Value}
theorem L5.call (h : L5 w1 g nl tl tn nv tv w) (hb : Below w.heap.size w w') : L5 w1 g nl tl tn nv tv w' where
  t := Blk_10.below h.t (Blk_10.lt h.t) hb
  names := h.names.below hb
  turns := h.turns.below hb
  dis := h.dis
  bel := h.bel.trans (hb.mono (Nat.le_trans (Nat.le_succ g) h.size))
  size := Nat.le_trans h.size hb.size
theorem L5.alloc (h : L5 w1 g nl tl tn nv tv w) (o : Obj) : L5 w1 g nl tl tn nv tv (w.alloc o) := h.call ((Below.refl w.heap.size w).alloc (Nat.le_refl _) o)
theorem L5.appN (h : L5 w1 g nl tl tn nv tv w) (ho : OwnG eN w' (g + 1) nv' nl') (hg : w.grownBy w' nv.ownBlock) (hv : nv'.ownBlock = nv.ownBlock ∨ nv'.ownBlock = some w.heap.size) : L5 w1 g nl' tl tn nv' tv w' where
  t := Blk.gb h.t hg (fun e => by have := h.names.lt g e; omega)
  names := ho
  turns := h.turns.kept hg (by
    cases hc : tv.ownBlock with
    | none => exact .inl rfl
    | some b => exact .inr fun e => h.dis b e.symm hc)
  dis := fun b hb hc => by
    rcases hv with e | e
    · exact h.dis b (e ▸ hb) hc
    · rw [e] at hb
      cases hb
      have := h.turns.ltS _ hc
      omega
  bel := h.bel.grown hg (Nat.le_trans (Nat.le_succ g) h.size) (fun b hb => by have := h.names.lt b hb; omega)
  size := Nat.le_trans h.size hg.size
theorem L5.store (h : L5 w1 g nl tl tn nv tv w) (hb : Blk w' 30 g [nv, .slice none 0 0]) (hg : w.grownBy w' (some g)) : L5 w1 g nl tl nv nv tv w' where
  t := hb
  names := h.names.kept hg (.inr fun e => by have := h.names.lt g e; omega)
  turns := h.turns.kept hg (.inr fun e => by have := h.turns.lt g e; omega)
  dis := h.dis
  bel := h.bel.grown hg (Nat.le_trans (Nat.le_succ g) h.size) (fun b hb => by cases hb; exact Nat.le_refl _)
  size := Nat.le_trans h.size hg.size
theorem L5.appT (h : L5 w1 g nl tl tn nv tv w) (ho : OwnG eT w' (g + 1) tv' tl') (hg : w.grownBy w' tv.ownBlock) (hv : tv'.ownBlock = tv.ownBlock ∨ tv'.ownBlock = some w.heap.size) : L5 w1 g nl tl' tn nv tv' w' where
  t := Blk.gb h.t hg (fun e => by have := h.turns.lt g e; omega)
  names := h.names.kept hg (by
    cases hc : nv.ownBlock with
    | none => exact .inl rfl
    | some b => exact .inr fun e => h.dis b hc e.symm)
  turns := ho
  dis := fun b hb hc => by
    rcases hv with e | e
    · exact h.dis b hb (e ▸ hc)
    · rw [e] at hc
      cases hc
      have := h.names.ltS _ hb
      omega
  bel := h.bel.grown hg (Nat.le_trans (Nat.le_succ g) h.size) (fun b hb => by have := h.turns.lt b hb; omega)
  size := Nat.le_trans h.size hg.size
theorem L5.start (w1 : World) : L5 w1 w1.heap.size [] [] (.slice none 0 0) (.slice none 0 0) (.slice none 0 0) (w1.alloc (.cells #[.slice none 0 0, .slice none 0 0] 30)) where
  t := Blk_10.new w1 _ [.slice none 0 0, .slice none 0 0]
  names := OwnG.nil_ eN _ _
  turns := OwnG.nil_ eT _ _
  dis := fun b hb => by cases hb
  bel := (Below.refl w1.heap.size w1).alloc (Nat.le_refl _) _
  size := by rw [World.size_alloc]; exact Nat.le_refl _
set_option maxHeartbeats 4000000 in
theorem pfill_none (p c : Nat) (A : Option Addr) (w : World) : Calls Try.prog 29 #[.int .i64 (p : Int), .slice A 0 c] w fun e w' => e = .returned (.slice none 0 0) ∧ w = w' := by
  go_enter Try.func29, Try.ntmps29
  go_wp2_with fail
  go_step3
  go_wp2_with fail
  (try rw [Exit.noGoto_ret])
  go_ret
  exact ⟨rfl, rfl⟩
theorem pfill_all (key : List UInt8) (R : List Shr) (hF : Full R) (p : Nat) (hp : SizeN p) (base : Nat) (tv : Value) (w : World) (h : OwnG eT w base tv (R.map (trOf key p))) :
    Calls Try.prog 29 #[.int .i64 (p : Int), tv] w fun e W' => ∃ v, e = .returned v ∧ OwnG eZ W' w.heap.size v (slotL key p R) ∧ w.grownBy W' tv.ownBlock := by
  by_cases hR : R = []
  · subst hR
    obtain ⟨A, m, c, rfl, hm, _⟩ := h.sl
    obtain rfl : m = 0 := hm
    refine (pfill_none p c A w).mono ?_
    rintro e w' ⟨rfl, rfl⟩
    exact ⟨_, rfl, by unfold slotL; rw [if_pos rfl]; exact OwnG.nil_ eZ _ _, World.grownBy.refl w _⟩
  · obtain ⟨gt, c, rfl, _⟩ := h.form (by rw [List.length_map]; exact List.length_pos_iff.2 hR)
    exact pfill_any key R hR hF p hp base _ c gt w h
end Go.Proofs.Ytmngagcekhlppaa
namespace Go.Proofs.Ytmngagcekhlppaa
set_option maxRecDepth 100000
open Go.RowKit Go.Lib

theorem rd_turn {W : World} {b : Nat} {x : Trn} (h : Blk W 55 b (eT.f x)) : RdG eT W W.heap.size (some ⟨b, 0, none⟩) 1 [x] :=
  ⟨rfl, fun _ => ⟨b, 0, rfl, Blk_10.lt h, fun j u hu => by
    rw [Nat.zero_add]
    refine Blk_10.cell h ?_
    have e : eT.cells [x] = eT.f x := by
      show eT.f x ++ [] = eT.f x
      rw [List.append_nil]
    rwa [e] at hu⟩⟩
theorem size2_share : (Try.prog.info? 48).map (·.size) = some 2 := by kernel_rfl
set_option maxHeartbeats 16000000 in
theorem pbuild_any (key : List UInt8) (hk : key.length = 16) (p : Nat) (hp : SizeN p) {B n : Nat} {A : Option Addr} (c : Nat) {xs : List Shr} (hm : MayS xs) (hf : ∀ x, x ∈ xs → x.nm.length ≤ 60) (hn : n ≤ 1024) (w : World) (hB : B ≤ w.heap.size) (h : RdG eS w B A n xs) :
    Calls Try.prog 12 #[keyC key, .int .i64 (p : Int), .slice A n c] w fun e W' => ∃ nv sv, e = .returned (.tuple #[tblV nv sv, .int .i64 0]) ∧ OwnG eN W' w.heap.size nv ((riseL xs).map Shr.nm) ∧ OwnG eZ W' w.heap.size sv (slotL key p (riseL xs)) ∧ Below w.heap.size w W' := by
  obtain ⟨C0, hC0⟩ : ∃ C, (key.map v8).toArray = C := ⟨_, rfl⟩
  have HKE : Hid (keyC key = .agg C0) := Lib.hid (by rw [← hC0]; rfl)
  rw [HKE.out]
  obtain ⟨Y1, hY1⟩ : ∃ Y, w.alloc (.cells C0 22) = Y := ⟨_, rfl⟩
  obtain ⟨Y, hY⟩ : ∃ Y, Y1.alloc (.cells #[.slice none 0 0, .slice none 0 0] 30) = Y := ⟨_, rfl⟩
  have hs1 : Y1.heap.size = w.heap.size + 1 := by rw [← hY1]; simp
  have HB0 := Lib.hid (show Below w.heap.size w Y by rw [← hY, ← hY1]; exact ((Below.refl w.heap.size w).alloc (Nat.le_refl _) _).alloc (by simp) _)
  have HK0 := Lib.hid (show Blk Y 22 w.heap.size (key.map v8) by rw [← hY, ← hY1, ← hC0]; exact (Blk_10.new w _ _).alloc _)
  have HT0 := Lib.hid (show Blk Y 30 (w.heap.size + 1) [.slice none 0 0, .slice none 0 0] by rw [← hY, ← hs1]; exact Blk_10.new Y1 _ [.slice none 0 0, .slice none 0 0])
  have HY := Lib.hid (show (w.alloc (.cells C0 22)).alloc (.cells #[.slice none 0 0, .slice none 0 0] 30) = Y by rw [← hY, ← hY1])
  have HSZ := Lib.hid (show Y.heap.size = w.heap.size + 2 by rw [← hY]; simp [hs1])
  have hne : ((p : Int) != (p : Int)) = false := by simp
  have hne2 : ¬ 1024 < (n : Int) := by omega
  have HN : Hid (∀ W, Calls Try.prog 25 #[.int .i64 (p : Int)] W fun e w' => e = .returned (.int .i64 (p : Int)) ∧ W = w') := Lib.hid (fun W => by
    have h9 := pnext_any (p : Int) (by have := hp.most; omega) W
    rw [next_size hp] at h9
    exact h9)
  have HRI := Lib.hid (prising_any c (by omega) Y HB0.out.size ((h.below (HB0.out.mono hB)).more hB))
  have HXL := Lib.hid h.len
  have HMM := Lib.hid hm
  have HNN := Lib.hid hn
  have HKL := Lib.hid hk
  have HP := Lib.hid hp
  have HF := Lib.hid hf
  obtain ⟨R, hR⟩ : ∃ R, riseL xs = R := ⟨_, rfl⟩
  rw [hR]
  have HRX := Lib.hid hR
  clear hR
  clear hC0 hY1 hY hs1 hp HKE h hB hm hn hk hf
  go_enter Try.func12, Try.ntmps12
  go_upto_region 1 with (fail)
  rw [HY.out]
  go_upto_region 4 with (first
    | (go_at_call 25; refine (HN.out _).mono ?_; rintro e w' ⟨rfl, rfl⟩)
    | (go_at_call 26; refine HRI.out.mono ?_; rintro e W1 ⟨v, ys, rfl, hown, hperm, hsort, hb⟩; obtain ⟨A1, m, c1, rfl, hm1, hmc, hcm, hrd, _⟩ := hown.sl; have HRD := Lib.hid hrd; have HPE := Lib.hid hperm; have HSO := Lib.hid hsort; have HB1 := Lib.hid (HB0.out.trans (hb.mono HB0.out.size)); have HT1 := Lib.hid (Blk_10.below HT0.out (Blk_10.lt HT0.out) hb); have HK1 := Lib.hid (Blk_10.below HK0.out (Blk_10.lt HK0.out) hb); have HM1 := Lib.hid hm1; have HS1 := Lib.hid (show w.heap.size + 2 ≤ W1.heap.size by have h9 := hb.size; have h8 := HSZ.out; omega); clear hown hperm hsort hb hmc hcm hrd hm1))
  have hm4 : m ≤ 1024 := by have h9 := HM1.out; have h8 := HPE.out.length_eq; have h7 := HXL.out; have h6 := HNN.out; omega
  have HM4 := Lib.hid hm4
  have HMB := Lib.hid (pmaybe_any c1 (by omega) W1 (Nat.le_refl _) HRD.out)
  clear hm4
  go_upto_region 6 with (go_at_call 27; refine HMB.out.mono ?_; rintro e W2 ⟨⟨r, rfl, hr⟩, hb⟩; obtain rfl : true = r := (hr.2 (HMM.out.okTo HPE.out)).symm; have HB2 := Lib.hid (HB1.out.trans (hb.mono HB1.out.size)); have HT2 := Lib.hid (Blk_10.below HT1.out (Blk_10.lt HT1.out) hb); have HK2 := Lib.hid (Blk_10.below HK1.out (Blk_10.lt HK1.out) hb); have HR2 := Lib.hid ((HRD.out.below hb).more hb.size); have HS2 := Lib.hid (Nat.le_trans HS1.out hb.size); clear hr hb)
  have HRE : Hid (posL ys = riseL xs) := Lib.hid (posL_eq ((HMM.out.okTo HPE.out).rise HSO.out) HPE.out)
  have HFU := Lib.hid HMM.out.full
  rw [HRX.out] at HRE HFU
  have HQ : Hid (∀ x, x ∈ ys → 0 ≤ x.q ∧ x.q ≤ 1024000 ∧ x.nm.length ≤ 60) := Lib.hid (fun x hx => by
    have h9 := HPE.out.mem_iff.1 hx
    exact ⟨(HMM.out.qu x h9).1, (HMM.out.qu x h9).2, HF.out x h9⟩)
  have HBA : Hid (∀ W, Below W2.heap.size W2 W → Below w.heap.size w W) := Lib.hid fun W hW => HB2.out.trans (hW.mono HB2.out.size)
  clear HMB HRI HRD HSO HXL HMM HNN HF HB0 HB1 HT0 HT1 HK0 HK1 HSZ HS1 HN HY hne hne2
  obtain ⟨g, hg⟩ : ∃ g, W2.heap.size = g := ⟨_, rfl⟩
  have HG := Lib.hid hg
  have HL0 := Lib.hid (L5.start W2)
  go_wp2_with fail
  rw [hg] at HL0
  clear hg
  go_loopw [9, 31] (fun tv i wr => ∃ (k : Nat) (nv : Value) (tv2 : Value), k ≤ m ∧ tv2 = tv ∧ i = .int .i64 (k : Int) ∧ L5 W2 g ((posL (ys.take k)).map Shr.nm) ((posL (ys.take k)).map (trOf key p)) nv nv tv2 wr)
    (fun _ i _ => m - (intOf i).toNat)
  case atStart => exact ⟨0, _, _, Nat.zero_le _, rfl, rfl, HL0.out⟩
  case round =>
    clear HL0
    obtain ⟨k, nv, tv, hk, rfl, rfl, hL⟩ := hrel
    have HL := Lib.hid hL
    clear hL
    by_cases hlt : k < m
    · have h1 : (k : Int) < (m : Int) := by omega
      have h0 : (0 : Int) ≤ (k : Int) := by omega
      obtain ⟨b, off, rfl, hbb⟩ := HR2.out.addr (by omega)
      obtain ⟨x, hx⟩ : ∃ x, ys[k]? = some x := ⟨_, List.getElem?_eq_getElem (by rw [HR2.out.len]; exact hlt)⟩
      have hr := (HR2.out.below (by rw [HG.out]; exact HL.out.bel))
      have c0 := hr.name hx
      have c1 := hr.quanta hx
      have HX := Lib.hid hx
      have HLT := Lib.hid hlt
      have HXQ := Lib.hid (HQ.out x (List.mem_of_getElem? hx))
      have HPS := Lib.hid (posL_succ hx)
      obtain ⟨q, hq⟩ := Int.eq_ofNat_of_zero_le HXQ.out.1
      rw [hq] at c1 HPS
      have HXE := Lib.hid hq
      have HKK : Hid (Blk wr 22 w.heap.size (key.map v8)) := Lib.hid (Blk_10.below HK2.out (by have h9 := HS2.out; have h8 := HG.out; omega) HL.out.bel)
      obtain ⟨N, hN⟩ : ∃ N, wr.heap.size = N := ⟨_, rfl⟩
      have HNE := Lib.hid hN
      have HL1 := Lib.hid (HL.out.alloc (.cells #[.string ⟨x.nm.toArray⟩, .int .i64 (q : Int)] 48))
      have HX1 := Lib.hid (Blk_10.new wr 48 [.string ⟨x.nm.toArray⟩, .int .i64 (q : Int)])
      have HK3 := Lib.hid (HKK.out.alloc (.cells #[.string ⟨x.nm.toArray⟩, .int .i64 (q : Int)] 48))
      have HLE1 := Lib.hid (show ((posL (ys.take k)).map Shr.nm).length + 1 ≤ 100000000 by
        rw [List.length_map]
        have h9 := List.length_filter_le (fun x : Shr => decide (x.q ≠ 0)) (ys.take k)
        have h8 : (ys.take k).length ≤ k := by rw [List.length_take]; exact Nat.min_le_left _ _
        have h7 := HM4.out
        show (List.filter _ _).length + 1 ≤ _
        omega)
      have HLE2 : Hid (((posL (ys.take k)).map (trOf key p)).length + 1 ≤ 100000000) := Lib.hid (by
        have h9 := HLE1.out
        rw [List.length_map] at h9 ⊢
        exact h9)
      have hk9 : k < 1024 := by have h9 := HM4.out; omega
      clear hr hx hq hlt hk hbb hN
      go_upto_region 11 with (fail)
      have HNV : Hid (∀ r, r = wr.heap.size → nv.ownBlock ≠ some r ∧ tv.ownBlock ≠ some r) := Lib.hid (fun r hr => ⟨fun e => by have h9 := HL.out.names.ltS _ e; omega, fun e => by have h9 := HL.out.turns.ltS _ e; omega⟩)
      have HNK : Hid (nv.ownBlock ≠ some w.heap.size ∧ tv.ownBlock ≠ some w.heap.size ∧ (some g : Option Nat) ≠ some w.heap.size) := Lib.hid (by
        have h8 := HG.out
        have h7 := HS2.out
        exact ⟨fun e => by have h9 := HL.out.names.lt _ e; omega, fun e => by have h9 := HL.out.turns.lt _ e; omega, fun e => by cases e; omega⟩)
      have HNV2 := Lib.hid (HNV.out N HNE.out.symm)
      have HGN : Hid ((some g : Option Nat) ≠ some N) := Lib.hid (fun e => by cases e; have h9 := HL.out.size; have h8 := HNE.out; omega)
      have HTR : Hid (eT.f (trOf key p x) = [.int .i64 (q : Int), .int .i64 0, .int .i64 (offN key x.nm p : Nat), .int .i64 (skN key x.nm p : Nat), .int .i64 0]) := Lib.hid (by
        unfold trOf
        rw [HXE.out]
        rfl)
      have HBG : Hid (∀ W : World, Calls Try.prog 28 #[.agg (key.map v8).toArray, .int .i64 (p : Int), .agg #[.string ⟨x.nm.toArray⟩, .int .i64 (q : Int)]] W fun e w' => e = .returned (.agg (eT.f (trOf key p x)).toArray) ∧ Below W.heap.size W w') := Lib.hid (fun W => mbegin_any key HKL.out x q HXE.out HXQ.out.2.2 p HP.out W)
      obtain ⟨a, ha⟩ : ∃ a, offN key x.nm p = a := ⟨_, rfl⟩
      obtain ⟨b2, hb2⟩ : ∃ b, skN key x.nm p = b := ⟨_, rfl⟩
      rw [ha, hb2] at HTR
      rw [HTR.out] at HBG
      rw [HNE.out] at HX1 ⊢
      clear ha hb2 c0 c1 h1
      generalize wr.alloc (.cells #[.string ⟨x.nm.toArray⟩, .int .i64 (q : Int)] 48) = Z at HL1 HX1 HK3 ⊢
      have x0 := HX1.out.cell (i := 0) rfl
      have x1 := HX1.out.cell (i := 1) rfl
      rcases Nat.eq_zero_or_pos q with hq0 | hq0
      · subst hq0
        rw [if_pos (show ((0 : Nat) : Int) = 0 from rfl)] at HPS
        go_wp2_with fail
        go_roundw
        case rel => exact ⟨k + 1, nv, tv, HLT.out, rfl, (by have := HLT.out; go_num), by rw [HPS.out]; exact HL1.out⟩
        case measure =>
          have := HLT.out
          simp [intOf]
          omega
      · have h5 : (0 : Int) < (q : Int) := by omega
        rw [if_neg (by omega)] at HPS
        have t0 := HL1.out.t.cell (i := 0) rfl
        clear hq0
        go_wp2_with (first
          | ((with_reducible show wpList _ _ _ (⟨some 43, _, _, _, _, _⟩ :: _) _ _); refine wpList_appendG eN rfl _ _ rfl (g + 1) nv _ (by rfl) (HL1.out.names.alloc _) (Z.heap.size + 1) _ 1 1 [x.nm] (by rfl) (RdG.laid eN Z [x.nm] 1 rfl _ rfl) HLE1.out (HL1.out.alloc (.cells #[.string ⟨x.nm.toArray⟩] 9)).size ?_; intro nv6 W6 ho6 hg6 hv6; have HL6 := Lib.hid ((HL1.out.alloc (.cells #[.string ⟨x.nm.toArray⟩] 9)).appN ho6 hg6 hv6); have HX6 := Lib.hid (Blk.gb (HX1.out.alloc (.cells #[.string ⟨x.nm.toArray⟩] 9)) hg6 HNV2.out.1); have HK6 := Lib.hid (Blk.gb (HK3.out.alloc (.cells #[.string ⟨x.nm.toArray⟩] 9)) hg6 HNK.out.1); clear ho6 hg6 hv6)
          | ((with_reducible show wpList _ _ _ (⟨none, _, _, _, _, _⟩ :: _) _ _); refine wpList_storeB1 (op := ⟨none, _, _, _, _, _⟩) rfl 27 (.tmp 44) (.tmp 43) rfl g 0 (by rfl) nv6 (by rfl) 30 [nv, .slice none 0 0] HL6.out.t (by simp) size1_names (own_slice HL6.out.names).1 (own_slice HL6.out.names).2 ?_; intro W7 hb7 hg7; have HL7 := Lib.hid (HL6.out.store hb7 hg7); have HX7 := Lib.hid (Blk.gb HX6.out hg7 HGN.out); have HK7 := Lib.hid (Blk.gb HK6.out hg7 HNK.out.2.2); clear hb7 hg7)
          | ((with_reducible show wpList _ _ _ (⟨some 46, _, _, _, _, _⟩ :: _) _ _); refine wpList_loadM (op := ⟨some 46, _, _, _, _, _⟩) 22 _ rfl (by rfl) w.heap.size 0 (by rfl) (key.map v8) (Blk_10.range HK7.out) _ Try.underlying22 rfl (keyp_size HKL.out) ?_)
          | ((with_reducible show wpList _ _ _ (⟨some 48, _, _, _, _, _⟩ :: _) _ _); refine wpList_loadM (op := ⟨some 48, _, _, _, _, _⟩) 48 _ rfl (by rfl) N 0 (by rfl) [.string ⟨x.nm.toArray⟩, .int .i64 (q : Int)] (Blk_10.range HX7.out) _ Try.underlying48 rfl size2_share ?_)
          | (go_at_call 28; refine (HBG.out W7).mono ?_; rintro e W8 ⟨rfl, hb8⟩; have HL8 := Lib.hid (HL7.out.call hb8); clear hb8)
          | ((with_reducible show wpList _ _ _ (⟨some 51, _, _, _, _, _⟩ :: _) _ _); refine wpList_appendG eT rfl _ _ rfl (g + 1) tv _ (by rfl) (HL8.out.turns.alloc _) (W8.heap.size + 1) _ 1 1 [trOf key p x] (by rfl) (RdG.laid eT W8 [trOf key p x] 1 rfl _ (by show _ = (eT.f (trOf key p x) ++ []).toArray; rw [HTR.out]; rfl)) HLE2.out (HL8.out.alloc (.cells #[.int .i64 (q : Int), .int .i64 0, .int .i64 (a : Int), .int .i64 (b2 : Int), .int .i64 0] 55)).size ?_; intro tv9 W9 ho9 hg9 hv9; have HL9 := Lib.hid ((HL8.out.alloc (.cells #[.int .i64 (q : Int), .int .i64 0, .int .i64 (a : Int), .int .i64 (b2 : Int), .int .i64 0] 55)).appT ho9 hg9 hv9); clear ho9 hg9 hv9))
        refine ⟨⟨k + 1, nv6, tv9, HLT.out, rfl, (by have := HLT.out; go_num), ?_⟩, ?_⟩
        · rw [HPS.out, List.map_append, List.map_append]
          exact HL9.out
        · have := HLT.out
          simp [intOf]
          omega
    · obtain rfl : k = m := by omega
      have h1 : ¬ (k : Int) < (k : Int) := by omega
      have ht : ys.take k = ys := by rw [← HR2.out.len]; exact List.take_length
      rw [ht, HRE.out] at HL
      have HFI := Lib.hid (pfill_all key R HFU.out p HP.out (g + 1) tv wr HL.out.turns)
      have HTB : Hid (Blk wr 30 (w.heap.size + 1) [.slice none 0 0, .slice none 0 0]) := Lib.hid (Blk_10.below HT2.out (by have h9 := HS2.out; have h8 := HG.out; omega) HL.out.bel)
      have HGW : Hid (w.heap.size + 2 ≤ g) := Lib.hid (by have h9 := HS2.out; have h8 := HG.out; omega)
      have HBW : Hid (Below w.heap.size w wr) := Lib.hid (HBA.out wr (by rw [HG.out]; exact HL.out.bel))
      clear hlt hk ht
      go_wp2_with (first
        | (go_at_call 29; refine HFI.out.mono ?_; rintro e W4 ⟨sv, rfl, ho4, hg4⟩; have HS4 := Lib.hid ho4; have HN4 := Lib.hid (HL.out.names.kept hg4 (dis_kept fun b h9 h8 => HL.out.dis b h8 h9)); have HT4 := Lib.hid (Blk.gb HL.out.t hg4 (fun e => by have := HL.out.turns.lt _ e; omega)); have HR4 := Lib.hid (Blk.gb HTB.out hg4 (fun e => by have := HL.out.turns.lt _ e; have h8 := HGW.out; omega)); have HB4 := Lib.hid (HBW.out.grown hg4 HBW.out.size (fun b h9 => by have := HL.out.turns.lt _ h9; have h8 := HGW.out; omega)); have HZ4 := Lib.hid (Nat.le_trans HL.out.size hg4.size); clear ho4 hg4)
        | ((with_reducible show wpList _ _ _ (⟨none, .store 28 _ _, _, _, _, _⟩ :: _) _ _); refine wpList_storeB1 (op := ⟨none, _, _, _, _, _⟩) rfl 28 (.tmp 56) (.tmp 55) rfl g 1 (by rfl) sv (by rfl) 30 [nv, .slice none 0 0] HT4.out (by simp) size1_slots (own_slice HS4.out).1 (own_slice HS4.out).2 ?_; intro W5 hb5 hg5; have HT5 : Hid (Blk W5 30 g [nv, sv]) := Lib.hid hb5; have HG5 := Lib.hid hg5; have HR5 := Lib.hid (Blk.gb HR4.out hg5 (fun e => by cases e; have h8 := HGW.out; omega)); clear hb5 hg5)
        | ((with_reducible show wpList _ _ _ (⟨some 57, _, _, _, _, _⟩ :: _) _ _); refine wpList_loadM (op := ⟨some 57, _, _, _, _, _⟩) 30 _ rfl (by rfl) g 0 (by rfl) [nv, sv] (Blk_10.range HT5.out) _ Try.underlying30 rfl size2_table ?_)
        | ((with_reducible show wpList _ _ _ (⟨none, .store 30 _ _, _, _, _, _⟩ :: _) _ _); refine wpList_storeBA (op := ⟨none, _, _, _, _, _⟩) rfl 30 (.tmp 6) (.tmp 57) rfl (w.heap.size + 1) (by rfl) [nv, sv] (by rfl) _ HR5.out rfl size2_table (fun v hv => by rcases List.mem_cons.1 hv with rfl | hv; exact (own_slice HN4.out).1; rw [List.mem_singleton.1 hv]; exact (own_slice HS4.out).1) ?_; intro W6 hb6 hg6; have HB6 := Lib.hid hb6; have HG6 := Lib.hid hg6; clear hb6 hg6))
      refine bodyPost_ret (results_tbt rfl _ _ (w.heap.size + 1) (by rfl) nv sv HB6.out (.int .i64 0) (by rfl)) rfl ?_
      have hgw := HGW.out
      have hsz := HL.out.size
      refine ⟨nv, sv, rfl, ?_, ?_, ?_⟩
      · exact ((HN4.out.kept HG5.out (.inr fun e => by have := HN4.out.lt _ e; omega)).kept HG6.out (.inr fun e => by have := HN4.out.lt _ e; omega)).base_le (by omega)
      · exact ((HS4.out.kept HG5.out (.inr fun e => by have := HS4.out.lt _ e; omega)).kept HG6.out (.inr fun e => by have := HS4.out.lt _ e; omega)).base_le (by omega)
      · exact (HB4.out.grown HG5.out HB4.out.size (fun b h9 => by cases h9; omega)).grown HG6.out (Nat.le_trans HB4.out.size HG5.out.size) (fun b h9 => by cases h9; omega)
theorem magC : MagC where
  build key hk p hp A n c xs hm hn hf _ _ w B hB h := pbuild_any key hk p hp c hm hf (by omega) w hB h
  none_ key _ z _ h2 A n c xs hn _ _ _ _ hz w B hB h := by
    rcases Classical.em (0 ≤ z ∧ SizeN z.toNat) with h9 | h9
    · obtain ⟨p, rfl⟩ := Int.eq_ofNat_of_zero_le h9.1
      have hp : SizeN p := h9.2
      rcases hz with h8 | h8
      · exact absurd h9 h8
      · exact pbuild_no key p hp c (by omega) h8 w hB h
    · exact pbuild_size key z h2 A n c h9 w
  pick A A' n c m c' nm xs _ hm _ _ _ _ hr v hv w B B' hB hB' h h' := ppick_any c c' hm w hB hB' h h' hr v hv
  count A A' n c m c' nm xs hn hm _ _ _ _ hr w B B' _ hB' _ h' := pcount_any c c' hn hm w hB' h' hr
end Go.Proofs.Ytmngagcekhlppaa
