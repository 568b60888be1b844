/-
  The document's add: a backend put into a pool.
-/
import Derived.Test.YtajmppaodhpmgaaURight
import Derived.Test.YtajmppaodhpmgaaUBld
import Derived.Test.YtajmppaodhpmgaaUIns
import Derived.BigQuiet
namespace Go.Proofs.Ytajmppaodhpmgaa
set_option maxRecDepth 100000
open Go.RowKit Go.Lib

theorem find_place (l : List Bk) (s : List UInt8) : (∃ (k : Nat) (b : Bk), findB l s = some b ∧ l[k]? = some b ∧ placeB l s = (k : Int) ∧ ∀ j c, j < k → l[j]? = some c → c.nm ≠ s) ∨ (findB l s = none ∧ placeB l s = -1) := by
  cases h : findB l s with
  | none => exact .inr ⟨rfl, place_no (find_none h)⟩
  | some b =>
    obtain ⟨hb, k, hk, e, hj⟩ := List.find?_eq_some_iff_getElem.1 h
    have hn : ∀ j c, j < k → l[j]? = some c → c.nm ≠ s := fun j c hjk hc e2 => by
      obtain ⟨h1, h2⟩ := List.getElem?_eq_some_iff.1 hc
      have := hj j hjk
      rw [h2, decide_eq_true e2] at this
      cases this
    have hlk : l[k]? = some b := by rw [List.getElem?_eq_getElem hk, e]
    exact .inl ⟨k, b, rfl, hlk, place_at hlk (of_decide_eq_true hb) hn, hn⟩
theorem gtr_eq (y z : List UInt8) : (!Op.bytesLess y z && !y == z) = Op.bytesLess z y := by
  by_cases h : y = z
  · subst h
    rw [less_irr, beq_self_eq_true]
    rfl
  · have e : (y == z) = false := beq_eq_false_iff_ne.2 h
    rw [e]
    cases hl : Op.bytesLess y z with
    | true => rw [less_asym hl]; rfl
    | false => rw [less_other hl h]; rfl
/-- What the document's Do answers: the pool, the error. -/
def DoGave (B : Nat) (w : World) (p : Pl) (o : OpU) (e : Ending) (w' : World) : Prop :=
  ∃ A' n' c', e = .returned (.tuple #[.agg #[.int .i64 (doP p o).ver, .slice A' n' c'], .int .i64 (o.err p)]) ∧ RdG eB w' w'.heap.size A' n' (doP p o).l ∧ (0 < n' → ∃ b off, A' = some ⟨b, off, none⟩ ∧ (b < B ∨ w.heap.size ≤ b)) ∧ Below w.heap.size w w'
theorem DoGave.no {B : Nat} {w w' : World} {p : Pl} {o : OpU} {n c : Nat} {A : Option Addr} {x : Int} (he : o.err p = x) (hx : x ≠ 0) (hpl : 0 < n → ∃ b off, A = some ⟨b, off, none⟩ ∧ b < B) (hr : RdG eB w' w'.heap.size A n p.l) (hb : Below w.heap.size w w') {v : Int} (hv : p.ver = v) :
    DoGave B w p o (.returned (.tuple #[.agg #[.int .i64 v, .slice A n c], .int .i64 x])) w' := by
  subst hv
  refine ⟨A, n, c, ?_, ?_, fun h0 => ?_, hb⟩
  · rw [do_no (by rw [he]; exact hx), he]
  · rw [do_no (by rw [he]; exact hx)]
    exact hr
  · obtain ⟨b, off, e, hlt⟩ := hpl h0
    exact ⟨b, off, e, .inl hlt⟩
/-- A slice whose block isn't the one that is written. -/
theorem RdG.off {α : Type} {E : Enc α} {w w' : World} {B B' n g : Nat} {A : Option Addr} {xs : List α} (h : RdG E w B A n xs) (hg : w.grownBy w' (some g)) (hB : B ≤ w.heap.size) (hB' : B ≤ B') (hne : 0 < n → ∃ b off, A = some ⟨b, off, none⟩ ∧ b ≠ g) : RdG E w' B' A n xs :=
  ⟨h.1, fun h0 => by
    obtain ⟨b, off, e, hlt, hc⟩ := h.2 h0
    obtain ⟨b2, off2, e2, hb2⟩ := hne h0
    rw [e] at e2
    cases e2
    exact ⟨b, off, e, by omega, fun j u hu => (World.grownBy.cell_far hg ⟨b, off + j, none⟩ (show b < w.heap.size by omega) (fun e3 => hb2 (by cases e3; rfl))).trans (hc j u hu)⟩⟩
theorem OwnG.place {α : Type} {E : Enc α} {w : World} {base n c : Nat} {A : Option Addr} {xs : List α} (h : OwnG E w base (.slice A n c) xs) (h0 : 0 < n) : ∃ b off, A = some ⟨b, off, none⟩ ∧ base ≤ b := by
  obtain ⟨_, _, _, e, _, _, _, _, hg⟩ := h.sl
  cases e
  obtain ⟨g, e, h1, _⟩ := hg h0
  exact ⟨g, 0, e, h1⟩
set_option maxHeartbeats 16000000 in
theorem radd_any {A : Option Addr} {n B : Nat} (c : Nat) {p : Pl} (hp : RightP p) (o : OpU) (hk : o.kind = 1) (hnm : o.b.nm.length ≤ 1000000) (w : World) (hB : B ≤ w.heap.size) (h : RdG eB w B A n p.l) :
    Calls Try.prog 36 #[.agg #[.int .i64 p.ver, .slice A n c], bkC o.b] w (DoGave B w p o) := by
  have HRP := Lib.hid hp
  have hlow := hp.low
  have htop := hp.top
  have hfew := hp.few
  obtain ⟨v, hv⟩ : ∃ v, p.ver = v := ⟨_, rfl⟩
  obtain ⟨x, hx⟩ : ∃ x, o.b = x := ⟨_, rfl⟩
  have HE : Hid (o.err p = if fairB x = false then 1 else if (findB p.l x.nm).isSome then 6 else if 1024 ≤ p.l.length ∨ 1099511627776 ≤ v then 7 else 0) := Lib.hid (by
    unfold OpU.err
    rw [if_pos hk, hx, hv])
  have HLI : Hid (o.list p.l = insB x.plain p.l) := Lib.hid (by
    unfold OpU.list
    rw [if_pos hk, hx])
  rw [hx] at hnm ⊢
  rw [hv] at hlow htop ⊢
  have HVV := Lib.hid hv
  unfold bkC
  obtain ⟨LX, hLX⟩ : ∃ L, (bkL x).toArray = L := ⟨_, rfl⟩
  rw [hLX]
  obtain ⟨Y, hY⟩ : ∃ Y, ((w.alloc (.cells #[.int .i64 v, .slice A n c] 24)).alloc (.cells LX 36)).alloc (.cells #[.int .i64 0, .slice none 0 0] 24) = Y := ⟨_, rfl⟩
  have hs1 := World.size_alloc w (.cells #[.int .i64 v, .slice A n c] 24)
  have hs2 := World.size_alloc (w.alloc (.cells #[.int .i64 v, .slice A n c] 24)) (.cells LX 36)
  have HT := Lib.hid (show Blk Y 24 w.heap.size [.int .i64 v, .slice A n c] by rw [← hY]; exact Blk_10.alloc (Blk_10.alloc (Blk_10.new w _ [.int .i64 v, .slice A n c]) _) _)
  have HX := Lib.hid (show Blk Y 36 (w.heap.size + 1) (bkL x) by
    rw [← hY, ← hLX]
    have := Blk_10.new (w.alloc (.cells #[.int .i64 v, .slice A n c] 24)) 36 (bkL x)
    rw [hs1] at this
    exact Blk_10.alloc this _)
  have HZ := Lib.hid (show Blk Y 24 (w.heap.size + 2) [.int .i64 0, .slice none 0 0] by
    rw [← hY]
    have := Blk_10.new ((w.alloc (.cells #[.int .i64 v, .slice A n c] 24)).alloc (.cells LX 36)) 24 [.int .i64 0, .slice none 0 0]
    rw [hs2, hs1] at this
    exact this)
  have hB0 : Below w.heap.size w Y := by rw [← hY]; exact ((((Below.refl w.heap.size w).alloc (Nat.le_refl _) _).alloc (by rw [hs1]; exact Nat.le_succ _) _).alloc (by rw [hs2, hs1]; omega) _)
  have HYS := Lib.hid (show Y.heap.size = w.heap.size + 3 by rw [← hY, World.size_alloc, hs2, hs1])
  have HB := Lib.hid hB0
  have HR := Lib.hid (h.below (hB0.mono hB))
  have HBB := Lib.hid hB
  have HL := Lib.hid h.len
  have HFA := Lib.hid (fun W => rfair_any x hnm W)
  have HFI : Hid (∀ W : World, Y.heap.size ≤ W.heap.size → RdG eB W B A n p.l → Calls Try.prog 38 #[.agg #[.int .i64 v, .slice A n c], .string ⟨x.nm.toArray⟩] W fun e w' => e = .returned (.int .i64 (placeB p.l x.nm)) ∧ Below W.heap.size W w') := Lib.hid (fun W hW hr => rfindU_any c (by rw [← h.len]; omega) v x.nm W (Nat.le_trans (Nat.le_trans hB hB0.size) hW) hr)
  have HPL := Lib.hid (fun W => rplain18_any x.hw W)
  unfold bkC at HFA
  rw [hLX] at HFA
  have HLX := Lib.hid hLX
  have HY := Lib.hid hY
  have HLT := Lib.hid (Blk_10.lt HT.out)
  have HLX1 := Lib.hid (Blk_10.lt HX.out)
  have HLZ := Lib.hid (Blk_10.lt HZ.out)
  have HBY := Lib.hid (Nat.le_trans hB hB0.size)
  have hn1 : n ≤ 1024 := by rw [← h.len]; exact hfew
  have HN1 := Lib.hid hn1
  have HV1 := Lib.hid (show 0 ≤ v ∧ v ≤ 1099511627776 from ⟨hlow, htop⟩)
  clear hp hx hv hLX hY hs1 hs2 hB0 hB h hnm hk hfew hlow htop
  cases hF : fairB x
  · have HC := Lib.hid HE.out
    rw [hF, if_pos rfl] at HC
    rw [hF] at HFA
    clear hF
    go_enter Try.func36, Try.ntmps36
    go_upto_region 1 with (fail)
    rw [HY.out]
    go_wp2_with (first | ((with_reducible show wpList _ _ _ (⟨some 9, _, _, _, _, _⟩ :: _) _ _); refine wpList_loadBk (op := ⟨some 9, _, _, _, _, _⟩) _ rfl (by rfl) (w.heap.size + 1) 0 (by rfl) x (Blk_10.range HX.out) _ HLX.out ?_) | ((with_reducible refine (HFA.out Y).mono ?_); rintro e w1 ⟨rfl, hb1⟩; have HB1 := Lib.hid hb1; have a0 : w1.cell? ⟨w.heap.size, 0, none⟩ = some (.int .i64 v) := (hb1.cell (p := ⟨w.heap.size, 0, none⟩) HLT.out).trans (Blk_10.cell HT.out (i := 0) rfl); have a1 : w1.cell? ⟨w.heap.size, 1, none⟩ = some (.slice A n c) := (hb1.cell (p := ⟨w.heap.size, 1, none⟩) HLT.out).trans (Blk_10.cell HT.out (i := 1) rfl); have bn : w1.cell? ⟨w.heap.size + 1, 0, none⟩ = some (.string ⟨x.nm.toArray⟩) := (hb1.cell (p := ⟨w.heap.size + 1, 0, none⟩) HLX1.out).trans (Blk_10.cell HX.out (bk_nm x)); have bw : w1.cell? ⟨w.heap.size + 1, 25, none⟩ = some (.float .f64 x.wt) := (hb1.cell (p := ⟨w.heap.size + 1, 25, none⟩) HLX1.out).trans (Blk_10.cell HX.out (bk_wt x)); clear hb1) | ((with_reducible show wpList _ _ _ (⟨none, .store 24 (.tmp 4) _, _, _, _, _⟩ :: _) _ _); refine wpList_storeBA rfl 24 (.tmp 4) _ rfl (w.heap.size + 2) (by rfl) [.int .i64 v, .slice A n c] (by rfl) _ (Blk_10.below HZ.out HLZ.out HB1.out) rfl poolSize (by simp [Value.oneCell']) ?_; intro w9 hb9 hg9; have HB9 := Lib.hid hb9; have HG9 := Lib.hid hg9; clear hb9 hg9))
    refine bodyPost_ret (v := .tuple #[.agg #[.int .i64 v, .slice A n c], .int .i64 1]) (results_pool rfl _ _ (w.heap.size + 2) (by rfl) [.int .i64 v, .slice A n c] rfl HB9.out _ (by rfl)) rfl ?_
    have hsz := Nat.le_trans HB.out.size HB1.out.size
    exact DoGave.no HC.out (by decide) (fun h0 => HR.out.addr h0) (((HR.out.below (HB1.out.mono HBY.out)).grown HG9.out (Nat.le_trans HBB.out hsz) (fun g hg => by cases hg; have := HBB.out; omega)).more (Nat.le_trans (Nat.le_trans HBB.out hsz) HG9.out.size)) (below_gb (HB.out.trans (HB1.out.mono HB.out.size)) HG9.out (by omega) hsz) HVV.out
  · rw [hF] at HFA
    have HE2 := Lib.hid HE.out
    rw [hF, if_neg (by decide)] at HE2
    have HFF := Lib.hid hF
    clear hF
    rcases find_place p.l x.nm with ⟨k, b, h1, h2, h3, h4⟩ | ⟨h1, h2⟩
    · have HC := Lib.hid HE2.out
      rw [h1, if_pos (show (some b).isSome = true from rfl)] at HC
      rw [h3] at HFI
      have hk0 : (0 : Int) ≤ (k : Int) := by omega
      clear h1 h2 h3 h4
      go_enter Try.func36, Try.ntmps36
      go_upto_region 1 with (fail)
      rw [HY.out]
      go_wp2_with (first | ((with_reducible show wpList _ _ _ (⟨some 9, _, _, _, _, _⟩ :: _) _ _); refine wpList_loadBk (op := ⟨some 9, _, _, _, _, _⟩) _ rfl (by rfl) (w.heap.size + 1) 0 (by rfl) x (Blk_10.range HX.out) _ HLX.out ?_) | ((with_reducible refine (HFA.out Y).mono ?_); rintro e w1 ⟨rfl, hb1⟩; have HB1 := Lib.hid hb1; have a0 : w1.cell? ⟨w.heap.size, 0, none⟩ = some (.int .i64 v) := (hb1.cell (p := ⟨w.heap.size, 0, none⟩) HLT.out).trans (Blk_10.cell HT.out (i := 0) rfl); have a1 : w1.cell? ⟨w.heap.size, 1, none⟩ = some (.slice A n c) := (hb1.cell (p := ⟨w.heap.size, 1, none⟩) HLT.out).trans (Blk_10.cell HT.out (i := 1) rfl); have bn : w1.cell? ⟨w.heap.size + 1, 0, none⟩ = some (.string ⟨x.nm.toArray⟩) := (hb1.cell (p := ⟨w.heap.size + 1, 0, none⟩) HLX1.out).trans (Blk_10.cell HX.out (bk_nm x)); have bw : w1.cell? ⟨w.heap.size + 1, 25, none⟩ = some (.float .f64 x.wt) := (hb1.cell (p := ⟨w.heap.size + 1, 25, none⟩) HLX1.out).trans (Blk_10.cell HX.out (bk_wt x)); clear hb1) | ((with_reducible refine (HFI.out w1 HB1.out.size (HR.out.below (HB1.out.mono HBY.out))).mono ?_); rintro e w2 ⟨rfl, hb2⟩; have HB2 := Lib.hid (HB1.out.trans (hb2.mono HB1.out.size)); clear a0 a1 bn bw; have a0 : w2.cell? ⟨w.heap.size, 0, none⟩ = some (.int .i64 v) := (HB2.out.cell (p := ⟨w.heap.size, 0, none⟩) HLT.out).trans (Blk_10.cell HT.out (i := 0) rfl); have a1 : w2.cell? ⟨w.heap.size, 1, none⟩ = some (.slice A n c) := (HB2.out.cell (p := ⟨w.heap.size, 1, none⟩) HLT.out).trans (Blk_10.cell HT.out (i := 1) rfl); have bn : w2.cell? ⟨w.heap.size + 1, 0, none⟩ = some (.string ⟨x.nm.toArray⟩) := (HB2.out.cell (p := ⟨w.heap.size + 1, 0, none⟩) HLX1.out).trans (Blk_10.cell HX.out (bk_nm x)); have bw : w2.cell? ⟨w.heap.size + 1, 25, none⟩ = some (.float .f64 x.wt) := (HB2.out.cell (p := ⟨w.heap.size + 1, 25, none⟩) HLX1.out).trans (Blk_10.cell HX.out (bk_wt x)); clear hb2) | ((with_reducible show wpList _ _ _ (⟨none, .store 24 (.tmp 4) _, _, _, _, _⟩ :: _) _ _); refine wpList_storeBA rfl 24 (.tmp 4) _ rfl (w.heap.size + 2) (by rfl) [.int .i64 v, .slice A n c] (by rfl) _ (Blk_10.below HZ.out HLZ.out HB2.out) rfl poolSize (by simp [Value.oneCell']) ?_; intro w9 hb9 hg9; have HB9 := Lib.hid hb9; have HG9 := Lib.hid hg9; clear hb9 hg9))
      refine bodyPost_ret (v := .tuple #[.agg #[.int .i64 v, .slice A n c], .int .i64 6]) (results_pool rfl _ _ (w.heap.size + 2) (by rfl) [.int .i64 v, .slice A n c] rfl HB9.out _ (by rfl)) rfl ?_
      have hsz := Nat.le_trans HB.out.size HB2.out.size
      exact DoGave.no HC.out (by decide) (fun h0 => HR.out.addr h0) (((HR.out.below (HB2.out.mono HBY.out)).grown HG9.out (Nat.le_trans HBB.out hsz) (fun g hg => by cases hg; have := HBB.out; omega)).more (Nat.le_trans (Nat.le_trans HBB.out hsz) HG9.out.size)) (below_gb (HB.out.trans (HB2.out.mono HB.out.size)) HG9.out (by omega) hsz) HVV.out
    · have HE3 := Lib.hid HE2.out
      rw [h1, if_neg (show ¬ (none : Option Bk).isSome = true by simp)] at HE3
      rw [h2] at HFI
      have HN := Lib.hid (find_none h1)
      clear h1 h2
      by_cases hfl : 1024 ≤ n ∨ 1099511627776 ≤ v
      · have HC := Lib.hid HE3.out
        rw [HL.out, if_pos hfl] at HC
        by_cases hn2 : 1024 ≤ n
        · have hni : (1024 : Int) ≤ (n : Int) := by omega
          clear hfl hn2
          go_enter Try.func36, Try.ntmps36
          go_upto_region 1 with (fail)
          rw [HY.out]
          go_wp2_with (first | ((with_reducible show wpList _ _ _ (⟨some 9, _, _, _, _, _⟩ :: _) _ _); refine wpList_loadBk (op := ⟨some 9, _, _, _, _, _⟩) _ rfl (by rfl) (w.heap.size + 1) 0 (by rfl) x (Blk_10.range HX.out) _ HLX.out ?_) | ((with_reducible refine (HFA.out Y).mono ?_); rintro e w1 ⟨rfl, hb1⟩; have HB1 := Lib.hid hb1; have a0 : w1.cell? ⟨w.heap.size, 0, none⟩ = some (.int .i64 v) := (hb1.cell (p := ⟨w.heap.size, 0, none⟩) HLT.out).trans (Blk_10.cell HT.out (i := 0) rfl); have a1 : w1.cell? ⟨w.heap.size, 1, none⟩ = some (.slice A n c) := (hb1.cell (p := ⟨w.heap.size, 1, none⟩) HLT.out).trans (Blk_10.cell HT.out (i := 1) rfl); have bn : w1.cell? ⟨w.heap.size + 1, 0, none⟩ = some (.string ⟨x.nm.toArray⟩) := (hb1.cell (p := ⟨w.heap.size + 1, 0, none⟩) HLX1.out).trans (Blk_10.cell HX.out (bk_nm x)); have bw : w1.cell? ⟨w.heap.size + 1, 25, none⟩ = some (.float .f64 x.wt) := (hb1.cell (p := ⟨w.heap.size + 1, 25, none⟩) HLX1.out).trans (Blk_10.cell HX.out (bk_wt x)); clear hb1) | ((with_reducible refine (HFI.out w1 HB1.out.size (HR.out.below (HB1.out.mono HBY.out))).mono ?_); rintro e w2 ⟨rfl, hb2⟩; have HB2 := Lib.hid (HB1.out.trans (hb2.mono HB1.out.size)); clear a0 a1 bn bw; have a0 : w2.cell? ⟨w.heap.size, 0, none⟩ = some (.int .i64 v) := (HB2.out.cell (p := ⟨w.heap.size, 0, none⟩) HLT.out).trans (Blk_10.cell HT.out (i := 0) rfl); have a1 : w2.cell? ⟨w.heap.size, 1, none⟩ = some (.slice A n c) := (HB2.out.cell (p := ⟨w.heap.size, 1, none⟩) HLT.out).trans (Blk_10.cell HT.out (i := 1) rfl); have bn : w2.cell? ⟨w.heap.size + 1, 0, none⟩ = some (.string ⟨x.nm.toArray⟩) := (HB2.out.cell (p := ⟨w.heap.size + 1, 0, none⟩) HLX1.out).trans (Blk_10.cell HX.out (bk_nm x)); have bw : w2.cell? ⟨w.heap.size + 1, 25, none⟩ = some (.float .f64 x.wt) := (HB2.out.cell (p := ⟨w.heap.size + 1, 25, none⟩) HLX1.out).trans (Blk_10.cell HX.out (bk_wt x)); clear hb2) | ((with_reducible show wpList _ _ _ (⟨none, .store 24 (.tmp 4) _, _, _, _, _⟩ :: _) _ _); refine wpList_storeBA rfl 24 (.tmp 4) _ rfl (w.heap.size + 2) (by rfl) [.int .i64 v, .slice A n c] (by rfl) _ (Blk_10.below HZ.out HLZ.out HB2.out) rfl poolSize (by simp [Value.oneCell']) ?_; intro w9 hb9 hg9; have HB9 := Lib.hid hb9; have HG9 := Lib.hid hg9; clear hb9 hg9))
          refine bodyPost_ret (v := .tuple #[.agg #[.int .i64 v, .slice A n c], .int .i64 7]) (results_pool rfl _ _ (w.heap.size + 2) (by rfl) [.int .i64 v, .slice A n c] rfl HB9.out _ (by rfl)) rfl ?_
          have hsz := Nat.le_trans HB.out.size HB2.out.size
          exact DoGave.no HC.out (by decide) (fun h0 => HR.out.addr h0) (((HR.out.below (HB2.out.mono HBY.out)).grown HG9.out (Nat.le_trans HBB.out hsz) (fun g hg => by cases hg; have := HBB.out; omega)).more (Nat.le_trans (Nat.le_trans HBB.out hsz) HG9.out.size)) (below_gb (HB.out.trans (HB2.out.mono HB.out.size)) HG9.out (by omega) hsz) HVV.out
        · have hni : ¬ (1024 : Int) ≤ (n : Int) := by omega
          have hvi : 1099511627776 ≤ v := by omega
          clear hfl hn2
          go_enter Try.func36, Try.ntmps36
          go_upto_region 1 with (fail)
          rw [HY.out]
          go_wp2_with (first | ((with_reducible show wpList _ _ _ (⟨some 9, _, _, _, _, _⟩ :: _) _ _); refine wpList_loadBk (op := ⟨some 9, _, _, _, _, _⟩) _ rfl (by rfl) (w.heap.size + 1) 0 (by rfl) x (Blk_10.range HX.out) _ HLX.out ?_) | ((with_reducible refine (HFA.out Y).mono ?_); rintro e w1 ⟨rfl, hb1⟩; have HB1 := Lib.hid hb1; have a0 : w1.cell? ⟨w.heap.size, 0, none⟩ = some (.int .i64 v) := (hb1.cell (p := ⟨w.heap.size, 0, none⟩) HLT.out).trans (Blk_10.cell HT.out (i := 0) rfl); have a1 : w1.cell? ⟨w.heap.size, 1, none⟩ = some (.slice A n c) := (hb1.cell (p := ⟨w.heap.size, 1, none⟩) HLT.out).trans (Blk_10.cell HT.out (i := 1) rfl); have bn : w1.cell? ⟨w.heap.size + 1, 0, none⟩ = some (.string ⟨x.nm.toArray⟩) := (hb1.cell (p := ⟨w.heap.size + 1, 0, none⟩) HLX1.out).trans (Blk_10.cell HX.out (bk_nm x)); have bw : w1.cell? ⟨w.heap.size + 1, 25, none⟩ = some (.float .f64 x.wt) := (hb1.cell (p := ⟨w.heap.size + 1, 25, none⟩) HLX1.out).trans (Blk_10.cell HX.out (bk_wt x)); clear hb1) | ((with_reducible refine (HFI.out w1 HB1.out.size (HR.out.below (HB1.out.mono HBY.out))).mono ?_); rintro e w2 ⟨rfl, hb2⟩; have HB2 := Lib.hid (HB1.out.trans (hb2.mono HB1.out.size)); clear a0 a1 bn bw; have a0 : w2.cell? ⟨w.heap.size, 0, none⟩ = some (.int .i64 v) := (HB2.out.cell (p := ⟨w.heap.size, 0, none⟩) HLT.out).trans (Blk_10.cell HT.out (i := 0) rfl); have a1 : w2.cell? ⟨w.heap.size, 1, none⟩ = some (.slice A n c) := (HB2.out.cell (p := ⟨w.heap.size, 1, none⟩) HLT.out).trans (Blk_10.cell HT.out (i := 1) rfl); have bn : w2.cell? ⟨w.heap.size + 1, 0, none⟩ = some (.string ⟨x.nm.toArray⟩) := (HB2.out.cell (p := ⟨w.heap.size + 1, 0, none⟩) HLX1.out).trans (Blk_10.cell HX.out (bk_nm x)); have bw : w2.cell? ⟨w.heap.size + 1, 25, none⟩ = some (.float .f64 x.wt) := (HB2.out.cell (p := ⟨w.heap.size + 1, 25, none⟩) HLX1.out).trans (Blk_10.cell HX.out (bk_wt x)); clear hb2) | ((with_reducible show wpList _ _ _ (⟨none, .store 24 (.tmp 4) _, _, _, _, _⟩ :: _) _ _); refine wpList_storeBA rfl 24 (.tmp 4) _ rfl (w.heap.size + 2) (by rfl) [.int .i64 v, .slice A n c] (by rfl) _ (Blk_10.below HZ.out HLZ.out HB2.out) rfl poolSize (by simp [Value.oneCell']) ?_; intro w9 hb9 hg9; have HB9 := Lib.hid hb9; have HG9 := Lib.hid hg9; clear hb9 hg9))
          refine bodyPost_ret (v := .tuple #[.agg #[.int .i64 v, .slice A n c], .int .i64 7]) (results_pool rfl _ _ (w.heap.size + 2) (by rfl) [.int .i64 v, .slice A n c] rfl HB9.out _ (by rfl)) rfl ?_
          have hsz := Nat.le_trans HB.out.size HB2.out.size
          exact DoGave.no HC.out (by decide) (fun h0 => HR.out.addr h0) (((HR.out.below (HB2.out.mono HBY.out)).grown HG9.out (Nat.le_trans HBB.out hsz) (fun g hg => by cases hg; have := HBB.out; omega)).more (Nat.le_trans (Nat.le_trans HBB.out hsz) HG9.out.size)) (below_gb (HB.out.trans (HB2.out.mono HB.out.size)) HG9.out (by omega) hsz) HVV.out
      · have HC := Lib.hid HE3.out
        rw [HL.out, if_neg hfl] at HC
        have hni : ¬ (1024 : Int) ≤ (n : Int) := by omega
        have hvi : ¬ 1099511627776 ≤ v := by omega
        have hnd : decide ((1024 : Int) ≤ (n : Int)) = false := decide_eq_false hni
        have hvd : decide (1099511627776 ≤ v) = false := decide_eq_false hvi
        have HVI := Lib.hid hvi
        clear hfl hni hvi
        go_enter Try.func36, Try.ntmps36
        go_upto_region 1 with (fail)
        rw [HY.out]
        go_upto_region 8 with (first | ((with_reducible show wpList _ _ _ (⟨some 9, _, _, _, _, _⟩ :: _) _ _); refine wpList_loadBk (op := ⟨some 9, _, _, _, _, _⟩) _ rfl (by rfl) (w.heap.size + 1) 0 (by rfl) x (Blk_10.range HX.out) _ HLX.out ?_) | ((with_reducible refine (HFA.out Y).mono ?_); rintro e w1 ⟨rfl, hb1⟩; have HB1 := Lib.hid hb1; have a0 : w1.cell? ⟨w.heap.size, 0, none⟩ = some (.int .i64 v) := (hb1.cell (p := ⟨w.heap.size, 0, none⟩) HLT.out).trans (Blk_10.cell HT.out (i := 0) rfl); have a1 : w1.cell? ⟨w.heap.size, 1, none⟩ = some (.slice A n c) := (hb1.cell (p := ⟨w.heap.size, 1, none⟩) HLT.out).trans (Blk_10.cell HT.out (i := 1) rfl); have bn : w1.cell? ⟨w.heap.size + 1, 0, none⟩ = some (.string ⟨x.nm.toArray⟩) := (hb1.cell (p := ⟨w.heap.size + 1, 0, none⟩) HLX1.out).trans (Blk_10.cell HX.out (bk_nm x)); have bw : w1.cell? ⟨w.heap.size + 1, 25, none⟩ = some (.float .f64 x.wt) := (hb1.cell (p := ⟨w.heap.size + 1, 25, none⟩) HLX1.out).trans (Blk_10.cell HX.out (bk_wt x)); clear hb1) | ((with_reducible refine (HFI.out w1 HB1.out.size (HR.out.below (HB1.out.mono HBY.out))).mono ?_); rintro e w2 ⟨rfl, hb2⟩; have HB2 := Lib.hid (HB1.out.trans (hb2.mono HB1.out.size)); clear a0 a1 bn bw; have a0 : w2.cell? ⟨w.heap.size, 0, none⟩ = some (.int .i64 v) := (HB2.out.cell (p := ⟨w.heap.size, 0, none⟩) HLT.out).trans (Blk_10.cell HT.out (i := 0) rfl); have a1 : w2.cell? ⟨w.heap.size, 1, none⟩ = some (.slice A n c) := (HB2.out.cell (p := ⟨w.heap.size, 1, none⟩) HLT.out).trans (Blk_10.cell HT.out (i := 1) rfl); have bn : w2.cell? ⟨w.heap.size + 1, 0, none⟩ = some (.string ⟨x.nm.toArray⟩) := (HB2.out.cell (p := ⟨w.heap.size + 1, 0, none⟩) HLX1.out).trans (Blk_10.cell HX.out (bk_nm x)); have bw : w2.cell? ⟨w.heap.size + 1, 25, none⟩ = some (.float .f64 x.wt) := (HB2.out.cell (p := ⟨w.heap.size + 1, 25, none⟩) HLX1.out).trans (Blk_10.cell HX.out (bk_wt x)); clear hb2) | ((with_reducible refine (HPL.out w2).mono ?_); rintro e w' ⟨rfl, rfl⟩) | ((with_reducible show wpList _ _ _ (⟨none, .store 34 (.tmp 32) _, _, _, _, _⟩ :: _) _ _); refine wpList_storeB1 rfl 34 (.tmp 32) _ rfl (w.heap.size + 1) 25 (by rfl) (.float .f64 (plainW x.wt)) (by rfl) 36 (bkL x) (Blk_10.below HX.out HLX1.out HB2.out) (by rw [bkL_len]; decide) (by kernel_rfl) rfl rfl ?_; intro w3 hb3 hg3; rw [bkL_wt x (plain_lt x.hw)] at hb3; have HB3 := Lib.hid hb3; have HG3 := Lib.hid hg3; clear hb3 hg3))
        clear a0 a1 bn bw
        obtain ⟨z, hz⟩ : ∃ z, x.plain = z := ⟨_, rfl⟩
        have HZZ := Lib.hid hz
        have HX3 : Hid (Blk w3 36 (w.heap.size + 1) (bkL z)) := Lib.hid (by rw [← hz]; exact HB3.out)
        have HLY : Hid (∀ {T g cs}, Blk Y T g cs → g ≠ w.heap.size + 1 → Blk w3 T g cs) := Lib.hid (fun h hne => Blk.gb (Blk_10.below h (Blk_10.lt h) HB2.out) HG3.out (fun e => hne (by cases e; rfl)))
        have HT3 := Lib.hid (HLY.out HT.out (by omega))
        have HZ3 := Lib.hid (HLY.out HZ.out (by omega))
        have HS3 := Lib.hid (Nat.le_trans HB2.out.size HG3.out.size)
        have HW3 := Lib.hid (below_gb (HB.out.trans (HB2.out.mono HB.out.size)) HG3.out (Nat.le_succ _) (Nat.le_trans HB.out.size HB2.out.size))
        have HR3 := Lib.hid ((HR.out.below (HB2.out.mono HBY.out)).grown HG3.out (Nat.le_trans HBY.out HB2.out.size) (fun g hg => by cases hg; have := HBB.out; omega))
        have HNZ := Lib.hid (fun b hb => (HN.out b hb : b.nm ≠ x.nm))
        obtain ⟨LZ, hLZ⟩ : ∃ L, (bkL z).toArray = L := ⟨_, rfl⟩
        have HLZ2 := Lib.hid hLZ
        have HBY3 := Lib.hid (Nat.le_trans HBY.out HS3.out)
        have HLT3 := Lib.hid (Blk_10.lt HT3.out)
        have HLX3 := Lib.hid (Blk_10.lt HX3.out)
        have HLZ3 := Lib.hid (Blk_10.lt HZ3.out)
        clear hz hLZ
        go_wp2_with fail
        go_loopw [6, 7, 8] (fun t d i wr => ∃ (k : Nat) (f : Bool), k ≤ n ∧ i = .int .i64 (k : Int) ∧ d = .bool f ∧ Hid (f = true → ¬ NoneUp z (p.l.take k)) ∧ Hid (f = false → NoneUp z (p.l.take k)) ∧ OwnG eB wr w3.heap.size t (laidB z f (p.l.take k)) ∧ Below w3.heap.size w3 wr) (fun _ _ i _ => n - (RowKit.intOf i).toNat)
        case atStart => exact ⟨0, false, Nat.zero_le _, rfl, rfl, Lib.hid (fun h => (by cases h)), Lib.hid (fun _ y hy => (by rw [List.take_zero] at hy; cases hy)), OwnG.nil_ eB _ _, Below.refl _ _⟩
        case round =>
          obtain ⟨k, f, hk, rfl, rfl, HF1, HF0, hown, hw⟩ := hrel
          have HW := Lib.hid hw
          have HO := Lib.hid hown
          have a1 : wr.cell? ⟨w.heap.size, 1, none⟩ = some (.slice A n c) := (hw.cell (p := ⟨w.heap.size, 1, none⟩) HLT3.out).trans (Blk_10.cell HT3.out (i := 1) rfl)
          have a0 : wr.cell? ⟨w.heap.size, 0, none⟩ = some (.int .i64 v) := (hw.cell (p := ⟨w.heap.size, 0, none⟩) HLT3.out).trans (Blk_10.cell HT3.out (i := 0) rfl)
          have bn : wr.cell? ⟨w.heap.size + 1, 0, none⟩ = some (.string ⟨z.nm.toArray⟩) := (hw.cell (p := ⟨w.heap.size + 1, 0, none⟩) HLX3.out).trans (Blk_10.cell HX3.out (bk_nm z))
          have RZ := Lib.hid (Blk_10.range (Blk_10.below HX3.out HLX3.out hw))
          clear hw hown
          by_cases hlt : k < n
          · have h1 : (k : Int) < (n : Int) := by omega
            have h0 : (0 : Int) ≤ (k : Int) := by omega
            obtain ⟨b, off, rfl, _⟩ := HR3.out.addr (by omega)
            obtain ⟨y, hy⟩ : ∃ y, p.l[k]? = some y := ⟨_, List.getElem?_eq_getElem (by rw [HL.out]; exact hlt)⟩
            have yn : wr.cell? ⟨b, off + k * 27, none⟩ = some (.string ⟨y.nm.toArray⟩) := (HR3.out.below (HW.out.mono HBY3.out)).cell hy 0 (bk_nm y)
            have RY := Lib.hid ((HR3.out.below (HW.out.mono HBY3.out)).range hy)
            have HTK : Hid (p.l.take (k + 1) = p.l.take k ++ [y]) := Lib.hid (by rw [List.take_add_one, hy]; rfl)
            have HLK : Hid ((p.l.take k).length = k) := Lib.hid (by rw [List.length_take, HL.out]; omega)
            have RYA := Lib.hid (fun W (hW : Below wr.heap.size wr W) => ((HR3.out.below (HW.out.mono HBY3.out)).below (hW.mono (Nat.le_trans HBY3.out HW.out.size))).range hy)
            obtain ⟨LY, hLY⟩ : ∃ L, (bkL y).toArray = L := ⟨_, rfl⟩
            have HLY2 := Lib.hid hLY
            have HLTN := Lib.hid hlt
            have hk9 : k < 9223372036854775807 := by omega
            have HYY := Lib.hid hy
            have hn1 := HN1.out
            clear hLY hy hlt
            cases f
            · have HF := Lib.hid (HF0.out rfl)
              cases hL : Op.bytesLess z.nm y.nm
              · have HS := Lib.hid (HF.out.snoc hL)
                have HGT := Lib.hid (gtr_eq y.nm z.nm)
                rw [hL] at HGT
                clear hL
                go_wp2_with fail
                go_quiet (fail)
                obtain ⟨wd, hwd⟩ : ∃ W, wr.drewN nq = W := ⟨_, rfl⟩
                have HWD : Hid (Below w3.heap.size w3 wd) := Lib.hid (by rw [← hwd]; exact ⟨HW.out.os, HW.out.tape, HW.out.output, HW.out.size, HW.out.block⟩)
                have HOD := Lib.hid HO.out
                have HOD : Hid (OwnG eB wd w3.heap.size _ _) := Lib.hid (by rw [← hwd]; exact HO.out)
                rw [hwd]
                rw [HGT.out]
                clear hwd a0 a1 bn yn
                have a1 : wd.cell? ⟨w.heap.size, 1, none⟩ = some (.slice (some ⟨b, off, none⟩) n c) := (HWD.out.cell (p := ⟨w.heap.size, 1, none⟩) HLT3.out).trans (Blk_10.cell HT3.out (i := 1) rfl)
                have RYD := Lib.hid ((HR3.out.below (HWD.out.mono HBY3.out)).range HYY.out)
                have RZD := Lib.hid (Blk_10.range (Blk_10.below HX3.out HLX3.out HWD.out))
                go_wp2_with (first | ((with_reducible show wpList _ _ _ (⟨some 62, _, _, _, _, _⟩ :: _) _ _); refine wpList_loadBk (op := ⟨some 62, _, _, _, _, _⟩) _ rfl (by rfl) (b) (off + k * 27) (by rfl) y (RYD.out) _ HLY2.out ?_) | ((with_reducible show wpList _ _ _ (⟨some 63, _, _, _, _, _⟩ :: _) _ _); refine wpList_build1 (o := ⟨some 63, _, _, _, _, _⟩) eB (by decide) y rfl 62 rfl _ HLY2.out (by rfl) ?_) | ((with_reducible show wpList _ _ _ (⟨some 64, _, _, _, _, _⟩ :: _) _ _); refine wpList_appendG (o := ⟨some 64, _, _, _, _, _⟩) eB rfl _ _ rfl w3.heap.size _ (p.l.take k) (by rfl) (HOD.out.alloc _) (wd.heap.size + 1) _ 1 1 [y] (by rfl) (RdG.laid eB wd [y] 1 rfl _ (by rw [← HLY2.out]; simp [Enc.cells]; rfl)) (by rw [HLK.out]; omega) (by rw [World.size_alloc]; exact Nat.le_succ_of_le HWD.out.size) ?_; intro v8 w8 ho hg _; have hb := ((Below.refl w3.heap.size wd).alloc (HWD.out.size) (.cells LY 36)).grown hg (by rw [World.size_alloc]; exact Nat.le_succ_of_le HWD.out.size) (HOD.out.lt); have HO8 := Lib.hid ho; have HN8 := Lib.hid hb; clear ho hg hb))
                refine ⟨⟨k + 1, false, HLTN.out, by go_num, rfl, Lib.hid (fun h => (by cases h)), Lib.hid (fun _ => (by rw [HTK.out]; exact HS.out)), by rw [HTK.out]; exact HO8.out, HWD.out.trans HN8.out⟩, ?_⟩
                have := HLTN.out
                simp [RowKit.intOf]
                omega
              · have HI := Lib.hid (insB_now HF.out hL)
                have HNN := Lib.hid (NoneUp.not_now (l := p.l.take k) hL)
                have HGT := Lib.hid (gtr_eq y.nm z.nm)
                rw [hL] at HGT
                clear hL
                go_wp2_with fail
                go_quiet (fail)
                obtain ⟨wd, hwd⟩ : ∃ W, wr.drewN nq = W := ⟨_, rfl⟩
                have HWD : Hid (Below w3.heap.size w3 wd) := Lib.hid (by rw [← hwd]; exact ⟨HW.out.os, HW.out.tape, HW.out.output, HW.out.size, HW.out.block⟩)
                have HOD := Lib.hid HO.out
                have HOD : Hid (OwnG eB wd w3.heap.size _ _) := Lib.hid (by rw [← hwd]; exact HO.out)
                rw [hwd]
                rw [HGT.out]
                clear hwd a0 a1 bn yn
                have a1 : wd.cell? ⟨w.heap.size, 1, none⟩ = some (.slice (some ⟨b, off, none⟩) n c) := (HWD.out.cell (p := ⟨w.heap.size, 1, none⟩) HLT3.out).trans (Blk_10.cell HT3.out (i := 1) rfl)
                have RYD := Lib.hid ((HR3.out.below (HWD.out.mono HBY3.out)).range HYY.out)
                have RZD := Lib.hid (Blk_10.range (Blk_10.below HX3.out HLX3.out HWD.out))
                go_upto_region 16 with (first | ((with_reducible show wpList _ _ _ (⟨some 54, _, _, _, _, _⟩ :: _) _ _); refine wpList_loadBk (op := ⟨some 54, _, _, _, _, _⟩) _ rfl (by rfl) (w.heap.size + 1) (0) (by rfl) z (RZD.out) _ HLZ2.out ?_) | ((with_reducible show wpList _ _ _ (⟨some 55, _, _, _, _, _⟩ :: _) _ _); refine wpList_build1 (o := ⟨some 55, _, _, _, _, _⟩) eB (by decide) z rfl 54 rfl _ HLZ2.out (by rfl) ?_) | ((with_reducible show wpList _ _ _ (⟨some 56, _, _, _, _, _⟩ :: _) _ _); refine wpList_appendG (o := ⟨some 56, _, _, _, _, _⟩) eB rfl _ _ rfl w3.heap.size _ (p.l.take k) (by rfl) (HOD.out.alloc _) (wd.heap.size + 1) _ 1 1 [z] (by rfl) (RdG.laid eB wd [z] 1 rfl _ (by rw [← HLZ2.out]; simp [Enc.cells]; rfl)) (by rw [HLK.out]; omega) (by rw [World.size_alloc]; exact Nat.le_succ_of_le HWD.out.size) ?_; intro v7 w7 ho hg _; have hb := ((Below.refl w3.heap.size wd).alloc (HWD.out.size) (.cells LZ 36)).grown hg (by rw [World.size_alloc]; exact Nat.le_succ_of_le HWD.out.size) (HOD.out.lt); have HO7 := Lib.hid ho; have HN7 := Lib.hid hb; clear ho hg hb))
                have HS7 := Lib.hid (Nat.le_trans HWD.out.size HN7.out.size)
                have a7 : w7.cell? ⟨w.heap.size, 1, none⟩ = some (.slice (some ⟨b, off, none⟩) n c) := ((HWD.out.trans HN7.out).cell (p := ⟨w.heap.size, 1, none⟩) HLT3.out).trans (Blk_10.cell HT3.out (i := 1) rfl)
                have RY7 := Lib.hid ((HR3.out.below ((HWD.out.trans HN7.out).mono HBY3.out)).range (by exact HYY.out))
                clear a1
                go_wp2_with (first | ((with_reducible show wpList _ _ _ (⟨some 62, _, _, _, _, _⟩ :: _) _ _); refine wpList_loadBk (op := ⟨some 62, _, _, _, _, _⟩) _ rfl (by rfl) (b) (off + k * 27) (by rfl) y (RY7.out) _ HLY2.out ?_) | ((with_reducible show wpList _ _ _ (⟨some 63, _, _, _, _, _⟩ :: _) _ _); refine wpList_build1 (o := ⟨some 63, _, _, _, _, _⟩) eB (by decide) y rfl 62 rfl _ HLY2.out (by rfl) ?_) | ((with_reducible show wpList _ _ _ (⟨some 64, _, _, _, _, _⟩ :: _) _ _); refine wpList_appendG (o := ⟨some 64, _, _, _, _, _⟩) eB rfl _ _ rfl w3.heap.size _ (p.l.take k ++ [z]) (by rfl) (HO7.out.alloc _) (w7.heap.size + 1) _ 1 1 [y] (by rfl) (RdG.laid eB w7 [y] 1 rfl _ (by rw [← HLY2.out]; simp [Enc.cells]; rfl)) (by rw [List.length_append, HLK.out, List.length_singleton]; omega) (by rw [World.size_alloc]; exact Nat.le_succ_of_le HS7.out) ?_; intro v8 w8 ho hg _; have hb := ((Below.refl w3.heap.size w7).alloc (HS7.out) (.cells LY 36)).grown hg (by rw [World.size_alloc]; exact Nat.le_succ_of_le HS7.out) (HO7.out.lt); have HO8 := Lib.hid ho; have HN8 := Lib.hid hb; clear ho hg hb))
                refine ⟨⟨k + 1, true, HLTN.out, by go_num, rfl, Lib.hid (fun _ => (by rw [HTK.out]; exact HNN.out)), Lib.hid (fun h => (by cases h)), by rw [HTK.out]; show OwnG eB _ _ _ (insB z (p.l.take k ++ [y])); rw [HI.out]; exact HO8.out, (HWD.out.trans HN7.out).trans HN8.out⟩, ?_⟩
                have := HLTN.out
                simp [RowKit.intOf]
                omega
            · have HF := Lib.hid (HF1.out rfl)
              have HI := Lib.hid (insB_done (z := y) HF.out)
              have HNN := Lib.hid (NoneUp.not_snoc (z := y) HF.out)
              skip
              go_wp2_with fail
              go_quiet (fail)
              obtain ⟨wd, hwd⟩ : ∃ W, wr.drewN nq = W := ⟨_, rfl⟩
              have HWD : Hid (Below w3.heap.size w3 wd) := Lib.hid (by rw [← hwd]; exact ⟨HW.out.os, HW.out.tape, HW.out.output, HW.out.size, HW.out.block⟩)
              have HOD := Lib.hid HO.out
              have HOD : Hid (OwnG eB wd w3.heap.size _ _) := Lib.hid (by rw [← hwd]; exact HO.out)
              rw [hwd]
              clear hwd a0 a1 bn yn
              have a1 : wd.cell? ⟨w.heap.size, 1, none⟩ = some (.slice (some ⟨b, off, none⟩) n c) := (HWD.out.cell (p := ⟨w.heap.size, 1, none⟩) HLT3.out).trans (Blk_10.cell HT3.out (i := 1) rfl)
              have RYD := Lib.hid ((HR3.out.below (HWD.out.mono HBY3.out)).range HYY.out)
              have RZD := Lib.hid (Blk_10.range (Blk_10.below HX3.out HLX3.out HWD.out))
              go_wp2_with (first | ((with_reducible show wpList _ _ _ (⟨some 62, _, _, _, _, _⟩ :: _) _ _); refine wpList_loadBk (op := ⟨some 62, _, _, _, _, _⟩) _ rfl (by rfl) (b) (off + k * 27) (by rfl) y (RYD.out) _ HLY2.out ?_) | ((with_reducible show wpList _ _ _ (⟨some 63, _, _, _, _, _⟩ :: _) _ _); refine wpList_build1 (o := ⟨some 63, _, _, _, _, _⟩) eB (by decide) y rfl 62 rfl _ HLY2.out (by rfl) ?_) | ((with_reducible show wpList _ _ _ (⟨some 64, _, _, _, _, _⟩ :: _) _ _); refine wpList_appendG (o := ⟨some 64, _, _, _, _, _⟩) eB rfl _ _ rfl w3.heap.size _ (insB z (p.l.take k)) (by rfl) (HOD.out.alloc _) (wd.heap.size + 1) _ 1 1 [y] (by rfl) (RdG.laid eB wd [y] 1 rfl _ (by rw [← HLY2.out]; simp [Enc.cells]; rfl)) (by rw [insB_len, HLK.out]; omega) (by rw [World.size_alloc]; exact Nat.le_succ_of_le HWD.out.size) ?_; intro v8 w8 ho hg _; have hb := ((Below.refl w3.heap.size wd).alloc (HWD.out.size) (.cells LY 36)).grown hg (by rw [World.size_alloc]; exact Nat.le_succ_of_le HWD.out.size) (HOD.out.lt); have HO8 := Lib.hid ho; have HN8 := Lib.hid hb; clear ho hg hb))
              refine ⟨⟨k + 1, true, HLTN.out, by go_num, rfl, Lib.hid (fun _ => (by rw [HTK.out]; exact HNN.out)), Lib.hid (fun h => (by cases h)), by rw [HTK.out]; show OwnG eB _ _ _ (insB z (p.l.take k ++ [y])); rw [HI.out]; exact HO8.out, HWD.out.trans HN8.out⟩, ?_⟩
              have := HLTN.out
              simp [RowKit.intOf]
              omega
          · obtain rfl : k = n := by omega
            have h1 : ¬ (k : Int) < (k : Int) := by omega
            have HTK : Hid (p.l.take k = p.l) := Lib.hid (List.take_of_length_le (Nat.le_of_eq HL.out))
            have hvw : v + 1 ≤ 1099511627776 := by have := HVI.out; omega
            have hvl : 0 ≤ v := HV1.out.1
            rw [HTK.out] at HO HF1 HF0
            clear hlt
            have HEND : Hid (∀ (A9 : Option Addr) (n9 c9 : Nat) (W W' : World), OwnG eB W w3.heap.size (.slice A9 n9 c9) (insB z p.l) → Below w3.heap.size w3 W → W.grownBy W' (some (w.heap.size + 2)) → DoGave B w p o (.returned (.tuple #[.agg #[.int .i64 (v + 1), .slice A9 n9 c9], .int .i64 0])) W') := Lib.hid (fun A9 n9 c9 W W' h9 hW hG => by
              refine ⟨A9, n9, c9, ?_, ?_, fun h0 => ?_, ?_⟩
              · rw [do_yes HC.out, HC.out, HVV.out]
              · rw [do_yes HC.out]
                show RdG eB W' W'.heap.size A9 n9 (o.list p.l)
                rw [HLI.out, HZZ.out]
                exact (h9.kept hG (.inr (fun e => by have := h9.lt _ e; have := HLZ3.out; omega))).rd
              · obtain ⟨b, off, e, hb⟩ := h9.place h0
                exact ⟨b, off, e, .inr (by have := HW3.out.size; omega)⟩
              · exact below_gb (HW3.out.trans (hW.mono HW3.out.size)) hG (by omega) (Nat.le_trans HW3.out.size hW.size))
            cases f
            · have HF := HF0.out rfl
              have HO7 := HO
              clear bn
              go_wp2_with (first | ((with_reducible show wpList _ _ _ (⟨some 68, _, _, _, _, _⟩ :: _) _ _); refine wpList_loadBk (op := ⟨some 68, _, _, _, _, _⟩) _ rfl (by rfl) (w.heap.size + 1) (0) (by rfl) z (RZ.out) _ HLZ2.out ?_) | ((with_reducible show wpList _ _ _ (⟨some 69, _, _, _, _, _⟩ :: _) _ _); refine wpList_build1 (o := ⟨some 69, _, _, _, _, _⟩) eB (by decide) z rfl 68 rfl _ HLZ2.out (by rfl) ?_) | ((with_reducible show wpList _ _ _ (⟨some 70, _, _, _, _, _⟩ :: _) _ _); refine wpList_appendG (o := ⟨some 70, _, _, _, _, _⟩) eB rfl _ _ rfl w3.heap.size _ (p.l) (by rfl) (HO.out.alloc _) (wr.heap.size + 1) _ 1 1 [z] (by rfl) (RdG.laid eB wr [z] 1 rfl _ (by rw [← HLZ2.out]; simp [Enc.cells]; rfl)) (by rw [HL.out]; omega) (by rw [World.size_alloc]; exact Nat.le_succ_of_le HW.out.size) ?_; intro v7 w7 ho hg _; have hb := ((Below.refl w3.heap.size wr).alloc (HW.out.size) (.cells LZ 36)).grown hg (by rw [World.size_alloc]; exact Nat.le_succ_of_le HW.out.size) (HO.out.lt); have HO7 := Lib.hid ho; have HN7 := Lib.hid hb; clear ho hg hb; obtain ⟨A9, n9, c9, rfl, e9, q9, r9, _, _⟩ := HO7.out.sl; clear e9 q9 r9; have a07 : w7.cell? ⟨w.heap.size, 0, none⟩ = some (.int .i64 v) := ((HW.out.trans HN7.out).cell (p := ⟨w.heap.size, 0, none⟩) HLT3.out).trans (Blk_10.cell HT3.out (i := 0) rfl); clear a0 a1) | ((with_reducible show wpList _ _ _ (⟨none, .store 24 (.tmp 4) _, _, _, _, _⟩ :: _) _ _); refine wpList_storeBA rfl 24 (.tmp 4) _ rfl (w.heap.size + 2) (by rfl) [.int .i64 (v + 1), .slice A9 n9 c9] (by rfl) _ (Blk_10.below HZ3.out HLZ3.out (HW.out.trans HN7.out)) rfl poolSize (by simp [Value.oneCell']) ?_; intro w9 hb9 hg9; have HB9 := Lib.hid hb9; have HG9 := Lib.hid hg9; clear hb9 hg9))
              refine bodyPost_ret (v := .tuple #[.agg #[.int .i64 (v + 1), .slice A9 n9 c9], .int .i64 0]) (results_pool rfl _ _ (w.heap.size + 2) (by rfl) [.int .i64 (v + 1), .slice A9 n9 c9] rfl HB9.out _ (by rfl)) rfl ?_
              exact HEND.out A9 n9 c9 w7 w9 (by have := HO7.out; rw [insB_none HF]; exact this) (HW.out.trans HN7.out) HG9.out
            · have HF := HF1.out rfl
              obtain ⟨A9, n9, c9, rfl, e9, q9, r9, _, _⟩ := HO.out.sl
              clear e9 q9 r9 bn
              go_wp2_with (first | ((with_reducible show wpList _ _ _ (⟨none, .store 24 (.tmp 4) _, _, _, _, _⟩ :: _) _ _); refine wpList_storeBA rfl 24 (.tmp 4) _ rfl (w.heap.size + 2) (by rfl) [.int .i64 (v + 1), .slice A9 n9 c9] (by rfl) _ (Blk_10.below HZ3.out HLZ3.out HW.out) rfl poolSize (by simp [Value.oneCell']) ?_; intro w9 hb9 hg9; have HB9 := Lib.hid hb9; have HG9 := Lib.hid hg9; clear hb9 hg9))
              refine bodyPost_ret (v := .tuple #[.agg #[.int .i64 (v + 1), .slice A9 n9 c9], .int .i64 0]) (results_pool rfl _ _ (w.heap.size + 2) (by rfl) [.int .i64 (v + 1), .slice A9 n9 c9] rfl HB9.out _ (by rfl)) rfl ?_
              exact HEND.out A9 n9 c9 wr w9 HO.out HW.out HG9.out
end Go.Proofs.Ytajmppaodhpmgaa
