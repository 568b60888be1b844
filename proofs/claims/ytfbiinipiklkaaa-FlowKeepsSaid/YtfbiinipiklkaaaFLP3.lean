/-
  The program: order, Older (cmp.Compare of ints, bytes.Compare).
-/
import Derived.Test.YtfbiinipiklkaaaFLP2
import Derived.Test.YtfbiinipiklkaaaHHash
import Derived.Test.YtfbiinipiklkaaaCmpL
import Derived.Test.YtfbiinipiklkaaaFLLd
import Derived.Lib.Bytealg
import Derived.Lib.BytesEntry
import Derived.Laws.Externs
namespace Go.Proofs.Ytfbiinipiklkaaa
set_option maxRecDepth 100000
open Go.RowKit Go.Lib

theorem pnan_any (n : Int) (w : World) : Calls Try.prog 65 #[.int .i64 n] w fun e w' => e = .returned (.bool false) ∧ w = w' := by
  have h1 : (n != n) = false := by simp
  go_enter Try.func65, Try.ntmps65
  go_wp2_with fail
  go_ret
  exact ⟨rfl, rfl⟩
def cmpI (a b : Int) : Int := if a < b then -1 else if b < a then 1 else 0
theorem pcmpi_any (a b : Int) (w : World) : Calls Try.prog 52 #[.int .i64 a, .int .i64 b] w fun e w' => e = .returned (.int .i64 (cmpI a b)) ∧ w = w' := by
  have HA := Lib.hid (fun W => pnan_any a W)
  have HB := Lib.hid (fun W => pnan_any b W)
  obtain ⟨r, hr⟩ : ∃ r, cmpI a b = r := ⟨_, rfl⟩
  rw [hr]
  unfold cmpI at hr
  by_cases h1 : a < b
  · rw [if_pos h1] at hr
    subst hr
    go_enter Try.func52, Try.ntmps52
    go_wp2_with (first | ((with_reducible refine (HA.out _).mono ?_); rintro e w' ⟨rfl, rfl⟩) | ((with_reducible refine (HB.out _).mono ?_); rintro e w' ⟨rfl, rfl⟩))
    go_ret
    exact ⟨rfl, rfl⟩
  · rw [if_neg h1] at hr
    by_cases h2 : b < a
    · rw [if_pos h2] at hr
      subst hr
      go_enter Try.func52, Try.ntmps52
      go_wp2_with (first | ((with_reducible refine (HA.out _).mono ?_); rintro e w' ⟨rfl, rfl⟩) | ((with_reducible refine (HB.out _).mono ?_); rintro e w' ⟨rfl, rfl⟩))
      go_ret
      exact ⟨rfl, rfl⟩
    · rw [if_neg h2] at hr
      subst hr
      go_enter Try.func52, Try.ntmps52
      go_wp2_with (first | ((with_reducible refine (HA.out _).mono ?_); rintro e w' ⟨rfl, rfl⟩) | ((with_reducible refine (HB.out _).mono ?_); rintro e w' ⟨rfl, rfl⟩))
      go_ret
      exact ⟨rfl, rfl⟩
theorem bytes_of {w : World} {B n c : Nat} {A : Option Addr} {xs : List UInt8} (h : Rd w B A n xs) : (Extern.Bytes.bytesOf (.slice A n c)).run Try.prog w = .ok ⟨xs.toArray⟩ w := by
  have hl := h.len
  cases A with
  | none =>
    have h0 : n = 0 := by
      rcases Nat.eq_zero_or_pos n with h0 | h0
      · exact h0
      · obtain ⟨b, off, e, _⟩ := h.addr h0
        cases e
    subst h0
    obtain rfl : xs = [] := List.eq_nil_of_length_eq_zero hl
    rfl
  | some a =>
    have h1 := run_loadBytesX (P := Try.prog) w (xs.map fun x => (x.toNat : Int)) a .empty (fun j x hx => by
      rw [List.getElem?_map] at hx
      obtain ⟨y, hy, rfl⟩ := Option.map_eq_some_iff.1 hx
      have hj := (List.getElem?_eq_some_iff.1 hy).1
      obtain ⟨b, off, e, _, hc⟩ := h.2 (by omega)
      cases e
      rw [add_plain]
      exact hc j y hy)
    rw [List.length_map, hl] at h1
    show (Extern.Bytes.loadBytes a n .empty).run Try.prog w = _
    rw [h1]
    congr 1
    apply ByteArray.ext
    simp only [Lib.bytesOf, List.map_map]
    have e : ((fun n : Int => n.toNat.toUInt8) ∘ fun x : UInt8 => (x.toNat : Int)) = id := by
      funext x
      simp
    rw [e, List.map_id]
    simp
theorem run_cmpb {w : World} {B B' n n' c c' : Nat} {A A' : Option Addr} {xs ys : List UInt8} (h : Rd w B A n xs) (h' : Rd w B' A' n' ys) : (callFunc 66 #[.slice A n c, .slice A' n' c']).run Try.prog w = .ok (.value (.int .i64 (Lib.compareBytes xs ys))) w := by
  rw [run_callFunc_extern Try.func66 (by kernel_rfl) (by kernel_rfl) (by kernel_rfl) (e := Extern.BytealgCompare.compare) (by kernel_rfl)]
  have h1 : (Extern.BytealgCompare.compare #[.slice A n c, .slice A' n' c']).run Try.prog w = .ok (.int .i64 (Lib.compareBytes xs ys)) w := by
    change Sem.run Try.prog (do pure (goInt (Extern.BytealgCompare.cmp (← Extern.Bytes.bytesOf (.slice A n c)) (← Extern.Bytes.bytesOf (.slice A' n' c'))))) w = _
    simp only [Sem.run_bind, bytes_of h, bytes_of h', Sem.run_pure, Result.andThen]
    rw [Lib.cmp_eq]
    rfl
  rw [h1]
  rfl
theorem pcmpb_any {w : World} {B B' n n' c c' : Nat} {A A' : Option Addr} {xs ys : List UInt8} (h : Rd w B A n xs) (h' : Rd w B' A' n' ys) : Calls Try.prog 53 #[.slice A n c, .slice A' n' c'] w fun e w' => e = .returned (.int .i64 (Lib.compareBytes xs ys)) ∧ w = w' := by
  have hc := run_cmpb (c := c) (c' := c') h h'
  clear h h'
  go_enter Try.func53, Try.ntmps53
  go_wp2_with fail
  go_ret
  exact ⟨rfl, rfl⟩
/-- How two flows stand. -/
def ordF (a b : Fw) : Int := if a.no = b.no then Lib.compareBytes (tuB a.k) (tuB b.k) else cmpI a.no b.no
theorem ord_less (a b : Fw) : decide (ordF a b < 0) = olderF a b := by
  unfold ordF olderF
  split
  · exact cmp_less _ _
  · rename_i h
    unfold cmpI
    by_cases h1 : a.no < b.no
    · rw [if_pos h1]
      simp [h1]
    · rw [if_neg h1, if_pos (by omega)]
      simp [h1]
theorem box_fw2 (w : World) (a b : Fw) : ∃ Y : World, (w.alloc (.cells (fwL a).toArray 28)).alloc (.cells (fwL b).toArray 28) = Y ∧ Blk_10 Y 28 w.heap.size (fwL a) ∧ Blk_10 Y 28 (w.heap.size + 1) (fwL b) ∧ Below w.heap.size w Y ∧ Y.heap.size = w.heap.size + 1 + 1 :=
  ⟨_, rfl, Blk_10.alloc (Blk_10.new w _ _) _, (by have := Blk_10.new (w.alloc (.cells (fwL a).toArray 28)) 28 (fwL b); rwa [World.size_alloc] at this), ((Below.refl w.heap.size w).alloc (Nat.le_refl _) _).alloc (by simp) _, by simp⟩
theorem yields_loadTuL {ops : Array Oper} {S : World → Prop} {op : Oper} {a : Act} (hw : Region.wanted op (yielded ops a.tmps) = true) (x : Operand) (ho : op.op = .load 26 x) (g o : Nat) (hx : a.eval x = .pointer (some ⟨g, o, none⟩)) (t : Tu) (h : t.Ok) (C : Value) (hC : tuC t = C)
    (hS : ∀ w, S w → w.rangeAt g o (tuL t)) : YieldsIf Try.prog ops S op C a := by
  subst hC
  exact yieldsIf_load_mid hw 26 x ho g o hx (tuL t) _ hS Try.underlying26 rfl (sizeTuL h)
set_option maxHeartbeats 8000000 in
theorem porder_any {a b : Fw} (ha : rightF a = true) (hb : rightF b = true) (w : World) : Calls Try.prog 37 #[fwC a, fwC b] w fun e w' => e = .returned (.int .i64 (ordF a b)) ∧ Below w.heap.size w w' := by
  obtain ⟨Y, hY, b1, b2, hbel, hsz⟩ := box_fw2 w a b
  obtain ⟨C0, hC0⟩ : ∃ C, (fwL a).toArray = C := ⟨_, rfl⟩
  obtain ⟨C1, hC1⟩ : ∃ C, (fwL b).toArray = C := ⟨_, rfl⟩
  rw [hC0, hC1] at hY
  have HY := Lib.hid hY
  have HB := Lib.hid hbel
  have HZ := Lib.hid hsz
  have e0 : fwC a = .agg C0 := by unfold fwC; rw [hC0]
  have e1 : fwC b = .agg C1 := by unfold fwC; rw [hC1]
  rw [e0, e1]
  have q0 : Y.cell? ⟨w.heap.size, 40, none⟩ = some (.int .i64 a.no) := b1.cell (i := 40) (fw_no a)
  have q1 : Y.cell? ⟨w.heap.size + 1, 40, none⟩ = some (.int .i64 b.no) := b2.cell (i := 40) (fw_no b)
  have HT1 : Hid (∀ W, Below Y.heap.size Y W → W.rangeAt w.heap.size 0 (tuL a.k)) := Lib.hid (fun W h => fw_key (Blk_10.range (Blk_10.below b1 (Blk_10.lt b1) h)))
  have HT2 : Hid (∀ W, Below Y.heap.size Y W → W.rangeAt (w.heap.size + 1) 0 (tuL b.k)) := Lib.hid (fun W h => fw_key (Blk_10.range (Blk_10.below b2 (Blk_10.lt b2) h)))
  have HO1 := Lib.hid a.ok
  have HO2 := Lib.hid b.ok
  have HB1 := Lib.hid (fun W => pbytes_any a.ok (right_fit ha) W)
  have HB2 := Lib.hid (fun W => pbytes_any b.ok (right_fit hb) W)
  have HC := Lib.hid (fun W => pcmpi_any a.no b.no W)
  obtain ⟨r, hr⟩ : ∃ r, ordF a b = r := ⟨_, rfl⟩
  rw [hr]
  unfold ordF at hr
  obtain ⟨TA, hTA⟩ : ∃ C, tuC a.k = C := ⟨_, rfl⟩
  obtain ⟨TB, hTB⟩ : ∃ C, tuC b.k = C := ⟨_, rfl⟩
  have HTA := Lib.hid hTA
  have HTB := Lib.hid hTB
  rw [hTA] at HB1
  rw [hTB] at HB2
  generalize tuB a.k = xs at HB1 hr
  generalize tuB b.k = ys at HB2 hr
  generalize a.no = m at q0 HC hr
  generalize b.no = n at q1 HC hr
  clear hY b1 b2 hbel hsz hC0 hC1 e0 e1 ha hb hTA hTB
  by_cases hmn : m = n
  · subst m
    rw [if_pos rfl] at hr
    have HR := Lib.hid hr
    have hz0 : cmpI n n = 0 := by unfold cmpI; rw [if_neg (Int.lt_irrefl n), if_neg (Int.lt_irrefl n)]
    rw [hz0] at HC
    clear hr hz0
    go_enter Try.func37, Try.ntmps37
    go_upto_region 1 with (fail)
    rw [HY.out]
    go_upto_region 4 with ((with_reducible refine (HC.out _).mono ?_); rintro e w' ⟨rfl, rfl⟩)
    refine wp_region_held_drew (S := fun W => Below Y.heap.size Y W) (by kernel_rfl) ((Below.refl Y.heap.size Y).drew) (fun hHeld => ?_)
    obtain ⟨X0, hX0⟩ : ∃ X, Y.drew = X := ⟨_, rfl⟩
    rw [hX0] at hHeld ⊢
    clear hX0
    refine tk 0 14 (.pointer (some ⟨w.heap.size, 0, none⟩)) rfl hHeld ?_
    simp only [Act.put, sA, sZ, sS]
    refine tkY 1 15 TA rfl (yields_loadTuL (by rfl) _ rfl w.heap.size 0 rfl a.k HO1.out TA HTA.out HT1.out) hHeld ?_
    simp only [Act.put, sA, sZ, sS]
    refine tk 3 17 (.pointer (some ⟨w.heap.size + 1, 0, none⟩)) rfl hHeld ?_
    simp only [Act.put, sA, sZ, sS]
    refine tkY 4 18 TB rfl (yields_loadTuL (by rfl) _ rfl (w.heap.size + 1) 0 rfl b.k HO2.out TB HTB.out HT2.out) hHeld ?_
    simp only [Act.put, sA, sZ, sS]
    refine wpAnyH_ready (rs := [2]) (by kernel_rfl) (by simp) (AllReadyH.cons (o := ⟨some 16, _, _, _, _, _⟩) rfl (fun K hK => ?_) AllReadyH.nil)
    go_simp
    refine (HB1.out X0).mono ?_
    rintro e W1 ⟨v, rfl, hov, hb1⟩
    obtain ⟨A1, m1, c1, rfl, hm1, hc1, hx1, hr1⟩ := hov.sl
    have HR1 := Lib.hid hr1
    have HB3 := Lib.hid (hHeld.trans (hb1.mono hHeld.size))
    clear hov hb1 hr1 hc1 hx1 hm1
    refine hK.out _ _ HB3.out (fun hHeld => ?_)
    clear hK K
    refine wpAnyH_ready (rs := [5]) (by kernel_rfl) (by simp) (AllReadyH.cons (o := ⟨some 19, _, _, _, _, _⟩) rfl (fun K hK => ?_) AllReadyH.nil)
    go_simp
    refine (HB2.out W1).mono ?_
    rintro e W2 ⟨v, rfl, hov, hb1⟩
    obtain ⟨A2, m2, c2, rfl, hm1, hc1, hx1, hr2⟩ := hov.sl
    have HR1' := Lib.hid (HR1.out.next hb1)
    have HR2 := Lib.hid hr2
    have HB4 := Lib.hid (HB3.out.trans (hb1.mono HB3.out.size))
    clear hov hb1 hr2 hc1 hx1 hm1 HR1
    refine hK.out _ _ HB4.out (fun hHeld => ?_)
    clear hK K
    have HCB := Lib.hid (pcmpb_any (c := c1) (c' := c2) HR1'.out HR2.out)
    refine wpAnyH_ready (rs := [6]) (by kernel_rfl) (by simp) (AllReadyH.cons (o := ⟨some 20, _, _, _, _, _⟩) rfl (fun K hK => ?_) AllReadyH.nil)
    go_simp
    refine HCB.out.mono ?_
    rintro e W3 ⟨rfl, rfl⟩
    refine hK.out _ _ HB4.out (fun hHeld => ?_)
    clear hK K
    rw [HR.out]
    refine tk 7 4 (.int .i64 r) rfl hHeld ?_
    simp only [Act.put, sA, sZ, sS]
    refine wpAnyH_done (by kernel_rfl) ?_ _
    clear hHeld
    go_wp2_with fail
    go_ret
    exact ⟨rfl, HB.out.trans (HB4.out.mono HB.out.size)⟩
  · rw [if_neg hmn] at hr
    have hr0 : r ≠ 0 := by
      rw [← hr]
      unfold cmpI
      split
      · decide
      · rw [if_pos (by omega)]
        decide
    have hr1 : (r == 0) = false := beq_eq_false_iff_ne.2 hr0
    have hr2 : (r != 0) = true := by simp [hr0]
    rw [hr] at HC
    clear hr hmn
    go_enter Try.func37, Try.ntmps37
    go_upto_region 1 with (fail)
    rw [HY.out]
    go_wp2_with ((with_reducible refine (HC.out _).mono ?_); rintro e w' ⟨rfl, rfl⟩)
    go_ret
    exact ⟨rfl, HB.out⟩
set_option maxHeartbeats 4000000 in
theorem polder_any {a b : Fw} (ha : rightF a = true) (hb : rightF b = true) (w : World) : Calls Try.prog 15 #[fwC a, fwC b] w fun e w' => e = .returned (.bool (olderF a b)) ∧ Below w.heap.size w w' := by
  obtain ⟨Y, hY, b1, b2, hbel, hsz⟩ := box_fw2 w a b
  have HO := Lib.hid (fun W => porder_any ha hb W)
  have HL := ord_less a b
  obtain ⟨C0, hC0⟩ : ∃ C, (fwL a).toArray = C := ⟨_, rfl⟩
  obtain ⟨C1, hC1⟩ : ∃ C, (fwL b).toArray = C := ⟨_, rfl⟩
  rw [hC0, hC1] at hY
  have e0 : fwC a = .agg C0 := by unfold fwC; rw [hC0]
  have e1 : fwC b = .agg C1 := by unfold fwC; rw [hC1]
  rw [e0, e1] at HO ⊢
  have HY := Lib.hid hY
  have HB := Lib.hid hbel
  have HG1 : Hid (Y.rangeAt w.heap.size 0 (fwL a)) := Lib.hid (Blk_10.range b1)
  have HG2 : Hid (Y.rangeAt (w.heap.size + 1) 0 (fwL b)) := Lib.hid (Blk_10.range b2)
  have HC0 := Lib.hid hC0
  have HC1 := Lib.hid hC1
  obtain ⟨r, hr⟩ : ∃ r, olderF a b = r := ⟨_, rfl⟩
  rw [hr] at HL ⊢
  generalize ordF a b = z at HO HL
  clear hY b1 b2 hbel hsz hC0 hC1 e0 e1 ha hb hr
  go_enter Try.func15, Try.ntmps15
  go_upto_region 1 with (fail)
  rw [HY.out]
  go_wp2_with (first | ((with_reducible show wpList _ _ _ (⟨some 5, _, _, _, _, _⟩ :: _) _ _); refine wpList_loadFw (op := ⟨some 5, _, _, _, _, _⟩) _ rfl (by rfl) w.heap.size 0 (by rfl) a HG1.out C0 HC0.out ?_) | ((with_reducible show wpList _ _ _ (⟨some 6, _, _, _, _, _⟩ :: _) _ _); refine wpList_loadFw (op := ⟨some 6, _, _, _, _, _⟩) _ rfl (by rfl) (w.heap.size + 1) 0 (by rfl) b HG2.out C1 HC1.out ?_) | ((with_reducible refine (HO.out Y).mono ?_); rintro e w1 ⟨rfl, hb⟩; have D1 := Lib.hid hb; clear hb))
  go_ret
  exact ⟨(by rw [← HL]; rfl), HB.out.trans (D1.out.mono HB.out.size)⟩
end Go.Proofs.Ytfbiinipiklkaaa
