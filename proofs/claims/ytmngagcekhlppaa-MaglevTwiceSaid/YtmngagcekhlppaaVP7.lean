/-
  The program's pays and choose (maglev), over a turn in an owned slice.
  Turns while slots are taken (maglev's fill): what each visit leaves of them. No program is walked here.
  slices.Repeat of one number (maglev's slots).
  The program's fill (maglev): the slots of a table.
-/
import Derived.Test.YtmngagcekhlppaaVP4
import Derived.Test.YtmngagcekhlppaaTK
import Derived.Deep.LoopGhost
import Derived.Test.YtmngagcekhlppaaVVisit
import Derived.Test.YtmngagcekhlppaaVShelf
import Derived.WalkMore
namespace Go.Proofs.Ytmngagcekhlppaa
set_option maxRecDepth 100000
open Go.RowKit Go.Lib

def payB (G : Nat) (x : Trn) : Bool := decide (G ≤ x.cr + x.q)
def crAft (G : Nat) (x : Trn) : Nat := if G ≤ x.cr + x.q then x.cr + x.q - G else x.cr + x.q
def payT (G : Nat) (x : Trn) : Trn := ⟨x.q, crAft G x, x.off, x.sk, x.nx⟩
theorem wrapI (z : Int) (h1 : -9223372036854775808 ≤ z) (h2 : z ≤ 9223372036854775807) : IntKind.i64.wrap z = z := wi64 h1 h2
set_option maxHeartbeats 4000000 in
theorem ppays_any {base n c g : Nat} {ts : List Trn} {j G : Nat} {x : Trn} (hx : ts[j]? = some x) (hq : x.q ≤ G) (hc : x.cr < G) (hG : G ≤ 1024000) (w : World) (h : OwnG eT w base (.slice (some ⟨g, 0, none⟩) n c) ts) :
    Calls Try.prog 42 #[.pointer (some ⟨g, j * 5, none⟩), .int .i64 (G : Int)] w fun e W' => e = .returned (.bool (payB G x)) ∧ OwnG eT W' base (.slice (some ⟨g, 0, none⟩) n c) (ts.set j (payT G x)) ∧ w.grownBy W' (some g) := by
  have HO := Lib.hid h
  have HX := Lib.hid hx
  obtain ⟨q, hqq⟩ : ∃ q, x.q = q := ⟨_, rfl⟩
  obtain ⟨cr, hcc⟩ : ∃ cr, x.cr = cr := ⟨_, rfl⟩
  obtain ⟨off, ho9⟩ : ∃ off, x.off = off := ⟨_, rfl⟩
  obtain ⟨sk, hs9⟩ : ∃ sk, x.sk = sk := ⟨_, rfl⟩
  obtain ⟨nx, hn9⟩ : ∃ nx, x.nx = nx := ⟨_, rfl⟩
  obtain rfl : x = ⟨q, cr, off, sk, nx⟩ := by rw [← hqq, ← hcc, ← ho9, ← hs9, ← hn9]
  have hq' : q ≤ G := hq
  have hc' : cr < G := hc
  have HQ0 := Lib.hid (h.tq hx)
  have HW1 := Lib.hid (wrapI ((cr : Int) + (q : Int)) (by omega) (by omega))
  obtain ⟨rb, hrb⟩ : ∃ r, payB G ⟨q, cr, off, sk, nx⟩ = r := ⟨_, rfl⟩
  obtain ⟨ry, hry⟩ : ∃ y, payT G ⟨q, cr, off, sk, nx⟩ = y := ⟨_, rfl⟩
  rw [hrb, hry]
  have HRB := Lib.hid hrb
  have HRY := Lib.hid hry
  clear hqq hcc ho9 hs9 hn9 hq hc h hx hrb hry
  go_enter Try.func42, Try.ntmps42
  go_wp2_with fail
  refine wp_region_held_drew (S := fun W => W.cell? ⟨g, j * 5, none⟩ = some (.int .i64 (q : Int))) (by kernel_rfl) (HQ0.out) (fun hHeld => ?_)
  have HO1 : Hid (OwnG eT w.drew base (.slice (some ⟨g, 0, none⟩) n c) ts) := Lib.hid HO.out.drew
  have HGD : Hid (w.grownBy w.drew (some g)) := Lib.hid ⟨rfl, rfl, rfl, Nat.le_refl _, fun _ _ _ => rfl⟩
  generalize w.drew = X1 at HO1 HGD hHeld ⊢
  refine tk 0 5 ((.pointer (some ⟨g, j * 5, none⟩))) rfl hHeld ?_
  simp only [Act.put, sA, sZ, sS]
  refine tk 1 6 ((.pointer (some ⟨g, j * 5, none⟩))) rfl hHeld ?_
  simp only [Act.put, sA, sZ, sS]
  refine tk 2 7 ((.pointer (some ⟨g, j * 5 + 1, none⟩))) rfl hHeld ?_
  simp only [Act.put, sA, sZ, sS]
  refine tk 4 9 ((.pointer (some ⟨g, j * 5, none⟩))) rfl hHeld ?_
  simp only [Act.put, sA, sZ, sS]
  refine tk 5 10 ((.pointer (some ⟨g, j * 5, none⟩))) rfl hHeld ?_
  simp only [Act.put, sA, sZ, sS]
  refine tk 6 11 ((.pointer (some ⟨g, j * 5, none⟩))) rfl hHeld ?_
  simp only [Act.put, sA, sZ, sS]
  refine tkY 7 12 ((.int .i64 (q : Int))) rfl (Or.inl ⟨by rfl, fun W hW => by have hc := hW; go_simp⟩) hHeld ?_
  simp only [Act.put, sA, sZ, sS]
  refine wpAnyH_ready (rs := [3]) (by kernel_rfl) (by simp) (AllReadyH.cons (o := ⟨some 8, _, _, _, _, _⟩) rfl (fun K hK => ?_) AllReadyH.nil)
  have hcc := HO1.out.tcr HX.out
  go_simp
  clear hcc
  refine hK.out _ _ (hHeld) (fun hHeld => ?_)
  clear hK K 
  refine tkY 8 13 ((.int .i64 ((cr : Int) + (q : Int)))) rfl (Or.inl ⟨by rfl, fun _ _ => by have hw1 := HW1.out; go_simp⟩) hHeld ?_
  simp only [Act.put, sA, sZ, sS]
  refine tk 9 14 ((.pointer (some ⟨g, j * 5, none⟩))) rfl hHeld ?_
  simp only [Act.put, sA, sZ, sS]
  refine tk 10 15 ((.pointer (some ⟨g, j * 5 + 1, none⟩))) rfl hHeld ?_
  simp only [Act.put, sA, sZ, sS]
  refine wpAnyH_ready (rs := [11]) (by kernel_rfl) (by simp) (AllReadyH.cons (o := ⟨none, _, _, _, _, _⟩) rfl (fun K hK => ?_) AllReadyH.nil)
  refine step_storeG eT rfl 3 (.tmp 15) (.tmp 13) rfl g j 1 (j * 5 + 1) rfl (by rfl) (.int .i64 ((cr : Int) + (q : Int))) (by rfl) ts n c base HO1.out ⟨q, cr, off, sk, nx⟩ ⟨q, cr + q, off, sk, nx⟩ HX.out (by decide) (by simp [eT]) size1_int rfl rfl ?_
  intro W2 ho2 hg2
  have HO2 := Lib.hid ho2
  have HG2 := Lib.hid (HGD.out.trans hg2)
  clear ho2 hg2
  have hlt : j < ts.length := (List.getElem?_eq_some_iff.1 HX.out).1
  have HX2 : Hid ((ts.set j ⟨q, cr + q, off, sk, nx⟩)[j]? = some ⟨q, cr + q, off, sk, nx⟩) := Lib.hid (List.getElem?_set_self hlt)
  clear hlt
  refine hK.out _ _ (HO2.out.tq HX2.out) (fun hHeld => ?_)
  clear hK K 
  refine wpAnyH_done (by kernel_rfl) ?_ _
  clear hHeld HO1 HQ0 HGD
  have hc1 := HO2.out.tcr HX2.out
  have hc2 : W2.cell? ⟨g, j * 5 + 1, none⟩ = some (.int .i64 ((cr : Int) + (q : Int))) := by
    rw [hc1]
    congr 2
  clear hc1
  by_cases hle : G ≤ cr + q
  · have h4 : ¬ (cr : Int) + (q : Int) < (G : Int) := by omega
    obtain rfl : true = rb := (decide_eq_true hle).symm.trans HRB.out
    obtain rfl : ry = ⟨q, cr + q - G, off, sk, nx⟩ := (by
      rw [← HRY.out]
      unfold payT crAft
      dsimp only
      rw [if_pos hle])
    have HZ : Hid (((cr + q - G : Nat) : Int) = (cr : Int) + (q : Int) - (G : Int)) := Lib.hid (by omega)
    have hw2 : IntKind.i64.wrap ((cr : Int) + (q : Int) - (G : Int)) = (cr : Int) + (q : Int) - (G : Int) := wrapI _ (by omega) (by omega)
    clear hle hq' hc' hG
    go_wp2_with ((with_reducible show wpList _ _ _ (⟨none, .store 3 _ _, _, _, _, _⟩ :: _) _ _); refine wpList_storeG eT rfl 3 _ _ rfl g j 1 (j * 5 + 1) rfl (by rfl) (.int .i64 ((cr : Int) + (q : Int) - (G : Int))) (by rfl) _ n c base HO2.out ⟨q, cr + q, off, sk, nx⟩ ⟨q, cr + q - G, off, sk, nx⟩ HX2.out (by decide) (by simp [eT, HZ.out]) size1_int rfl rfl ?_; intro w7 ho7 hg7; have HO7 := Lib.hid ho7; have HG7 := Lib.hid (HG2.out.trans hg7); clear ho7 hg7)
    go_ret
    refine ⟨rfl, ?_, HG7.out⟩
    have h9 := HO7.out
    rw [List.set_set] at h9
    exact h9
  · have h4 : (cr : Int) + (q : Int) < (G : Int) := by omega
    obtain rfl : false = rb := (decide_eq_false hle).symm.trans HRB.out
    obtain rfl : ry = ⟨q, cr + q, off, sk, nx⟩ := (by
      rw [← HRY.out]
      unfold payT crAft
      dsimp only
      rw [if_neg hle])
    clear hle hq' hc' hG
    go_wp2_with fail
    go_ret
    exact ⟨rfl, HO2.out, HG2.out⟩
theorem OwnG.cell1z {w : World} {base n c g : Nat} {xs : List Int} (h : OwnG eZ w base (.slice (some ⟨g, 0, none⟩) n c) xs) {j : Nat} {z : Int} (hz : xs[j]? = some z) : w.cell? ⟨g, j, none⟩ = some (.int .i64 z) := by
  have h9 := h.cell hz 0 (u := .int .i64 z) rfl
  have e : j * eZ.k + 0 = j := by show j * 1 + 0 = j; omega
  rwa [e] at h9
set_option maxHeartbeats 4000000 in
theorem pchoose_any {base n c g : Nat} {ts : List Trn} {j p k : Nat} {x : Trn} (hx : ts[j]? = some x) (hp : SizeN p) (ho : x.off < p) (hs : x.sk < p) (hkp : k < p) (hnk : x.nx ≤ k) (w : World) (h : OwnG eT w base (.slice (some ⟨g, 0, none⟩) n c) ts)
    {base2 b c2 : Nat} {S : List Int} (hS : OwnG eZ w base2 (.slice (some ⟨b, 0, none⟩) p c2) S) (hbg : b ≠ g) (hfree : S[chN x.off x.sk p k]? = some (-1)) (htak : ∀ i, i < k → ∃ y, S[chN x.off x.sk p i]? = some y ∧ 0 ≤ y) :
    Calls Try.prog 43 #[.pointer (some ⟨g, j * 5, none⟩), .slice (some ⟨b, 0, none⟩) p c2] w fun e W' => e = .returned (.int .i64 (chN x.off x.sk p k : Nat)) ∧ OwnG eT W' base (.slice (some ⟨g, 0, none⟩) n c) (ts.set j ⟨x.q, x.cr, x.off, x.sk, k + 1⟩) ∧ w.grownBy W' (some g) := by
  obtain ⟨q, hqq⟩ : ∃ q, x.q = q := ⟨_, rfl⟩
  obtain ⟨cr, hcc⟩ : ∃ cr, x.cr = cr := ⟨_, rfl⟩
  obtain ⟨off, ho9⟩ : ∃ off, x.off = off := ⟨_, rfl⟩
  obtain ⟨sk, hs9⟩ : ∃ sk, x.sk = sk := ⟨_, rfl⟩
  obtain ⟨nx, hn9⟩ : ∃ nx, x.nx = nx := ⟨_, rfl⟩
  obtain rfl : x = ⟨q, cr, off, sk, nx⟩ := by rw [← hqq, ← hcc, ← ho9, ← hs9, ← hn9]
  have hjl : j < ts.length := (List.getElem?_eq_some_iff.1 hx).1
  have HJL := Lib.hid hjl
  have HSW := Lib.hid hS
  have HBG := Lib.hid hbg
  have HCH := Lib.hid (fun (i : Nat) (hi : i ≤ 2147483648) (W : World) => pchoice_any off sk p i hp ho hs hi W)
  have HCL := Lib.hid (fun i => chN_lt hp.two off sk i)
  have HFR : Hid (S[chN off sk p k]? = some (-1)) := Lib.hid hfree
  have HTA : Hid (∀ i, i < k → ∃ y, S[chN off sk p i]? = some y ∧ 0 ≤ y) := Lib.hid htak
  have hkm : k ≤ 65537 := by have := hp.most; omega
  have hnk' : nx ≤ k := hnk
  have hse : ts.set j ⟨q, cr, off, sk, nx⟩ = ts := by
    apply List.ext_getElem?
    intro i
    rw [List.getElem?_set]
    by_cases hij : j = i
    · subst hij
      rw [if_pos rfl, if_pos hjl, hx]
    · rw [if_neg hij]
  have HO0 : Hid (OwnG eT w base (.slice (some ⟨g, 0, none⟩) n c) (ts.set j ⟨q, cr, off, sk, nx⟩)) := Lib.hid (by rw [hse]; exact h)
  clear hqq hcc ho9 hs9 hn9 hx hp ho hs hkp hnk h hS hbg hfree htak hse hjl
  go_enter Try.func43, Try.ntmps43
  go_wp2_with fail
  obtain ⟨N, hN⟩ : ∃ N, nx + N = k := ⟨k - nx, by omega⟩
  go_loopg [5] N (fun gh v5 wr => ∃ i : Nat, nx ≤ i ∧ i + gh = k ∧ OwnG eT wr base (.slice (some ⟨g, 0, none⟩) n c) (ts.set j ⟨q, cr, off, sk, i⟩) ∧ w.grownBy wr (some g))
  case atStart => exact ⟨nx, Nat.le_refl _, hN, HO0.out, World.grownBy.refl w _⟩
  case round =>
    obtain ⟨i, hni, hgi, hO, hG⟩ := hrel
    have HO := Lib.hid hO
    have HGB := Lib.hid hG
    have HS := Lib.hid (HSW.out.kept hG (.inr fun e => HBG.out (by cases e; rfl)))
    have HX : Hid ((ts.set j ⟨q, cr, off, sk, i⟩)[j]? = some ⟨q, cr, off, sk, i⟩) := Lib.hid (List.getElem?_set_self HJL.out)
    have t2 := hO.toff HX.out
    have t3 := hO.tsk HX.out
    have t4 := hO.tnx HX.out
    dsimp only at t2 t3 t4
    have HCI := Lib.hid (HCH.out i (by omega))
    have hal := HCL.out i
    have hik : i ≤ 65537 := by omega
    obtain ⟨a, ha⟩ : ∃ a, chN off sk p i = a := ⟨_, rfl⟩
    rw [ha] at HCI hal
    have HA := Lib.hid ha
    have HNI := Lib.hid hni
    have HGI := Lib.hid hgi
    have hal2 : (a : Int) < (p : Int) := by omega
    have h0 : (0 : Int) ≤ (a : Int) := by omega
    clear hO hG ha hni
    go_wp2_with fail
    go_quiet ((go_at_call 54; exact quiet_same (HCI.out _)))
    clear t2 t3
    have HZ : Hid (((i + 1 : Nat) : Int) = (i : Int) + 1) := Lib.hid (by omega)
    have hw1 : IntKind.i64.wrap ((i : Int) + 1) = (i : Int) + 1 := wrapI _ (by omega) (by omega)
    have HSE : Hid ((ts.set j ⟨q, cr, off, sk, i⟩).set j ⟨q, cr, off, sk, i + 1⟩ = ts.set j ⟨q, cr, off, sk, i + 1⟩) := Lib.hid (by rw [List.set_set])
    have t5 : (wr.drewN nq).cell? ⟨g, j * 5 + 4, none⟩ = some (.int .i64 (i : Int)) := t4
    have HOD : Hid (OwnG eT (wr.drewN nq) base (.slice (some ⟨g, 0, none⟩) n c) (ts.set j ⟨q, cr, off, sk, i⟩)) := Lib.hid HO.out
    have HSD : Hid (OwnG eZ (wr.drewN nq) base2 (.slice (some ⟨b, 0, none⟩) p c2) S) := Lib.hid HS.out
    have HGD : Hid (w.grownBy (wr.drewN nq) (some g)) := Lib.hid ⟨HGB.out.os, HGB.out.tape, HGB.out.output, HGB.out.size, HGB.out.block⟩
    clear t4 HO HS HGB
    rcases Decidable.em (i = k) with hik2 | hik2
    · subst hik2
      have hs5 : ∃ y, S[a]? = some y ∧ y = -1 := ⟨_, by rw [← HA.out]; exact HFR.out, rfl⟩
      obtain ⟨y, hy, rfl⟩ := hs5
      have HY := Lib.hid hy
      clear hy hik hkm HGI HNI
      go_wp2_with ((with_reducible show wpList _ _ _ (⟨none, .store 3 _ _, _, _, _, _⟩ :: _) _ _); refine wpList_storeG eT rfl 3 _ _ rfl g j 4 (j * 5 + 4) rfl (by rfl) (.int .i64 ((i : Int) + 1)) (by rfl) _ n c base HOD.out ⟨q, cr, off, sk, i⟩ ⟨q, cr, off, sk, i + 1⟩ HX.out (by decide) (by simp [eT]) size1_int rfl rfl ?_; intro w7 ho7 hg7; rw [HSE.out] at ho7; have HO7 := Lib.hid ho7; have HG7 := Lib.hid (HGD.out.trans hg7); have HS7 := Lib.hid (HSD.out.kept hg7 (.inr fun e => HBG.out (by cases e; rfl))); clear ho7 hg7; have s7 := HS7.out.cell1z HY.out)
      go_ret
      refine ⟨?_, HO7.out, HG7.out⟩
      rw [HA.out]
      rfl
    · have hlt : i < k := by have := HGI.out; omega
      obtain ⟨y, hy0, hy1⟩ := HTA.out i hlt
      rw [HA.out] at hy0
      have HY := Lib.hid hy0
      have hyn : (y == -1) = false := beq_eq_false_iff_ne.2 (by omega)
      clear hy0 hy1 hik2
      go_wp2_with ((with_reducible show wpList _ _ _ (⟨none, .store 3 _ _, _, _, _, _⟩ :: _) _ _); refine wpList_storeG eT rfl 3 _ _ rfl g j 4 (j * 5 + 4) rfl (by rfl) (.int .i64 ((i : Int) + 1)) (by rfl) _ n c base HOD.out ⟨q, cr, off, sk, i⟩ ⟨q, cr, off, sk, i + 1⟩ HX.out (by decide) (by simp [eT]) size1_int rfl rfl ?_; intro w7 ho7 hg7; rw [HSE.out] at ho7; have HO7 := Lib.hid ho7; have HG7 := Lib.hid (HGD.out.trans hg7); have HS7 := Lib.hid (HSD.out.kept hg7 (.inr fun e => HBG.out (by cases e; rfl))); clear ho7 hg7; have s7 := HS7.out.cell1z HY.out)
      go_roundg (gk - 1)
      case measure => omega
      case rel => exact ⟨i + 1, by have := HNI.out; omega, by omega, HO7.out, HG7.out⟩
end Go.Proofs.Ytmngagcekhlppaa
namespace Go.Proofs.Ytmngagcekhlppaa
open Go.RowKit Go.Lib

/-- The turn of a share, ahead of all slots. -/
def trOf (key : List UInt8) (p : Nat) (x : Shr) : Trn := ⟨x.q.toNat, 0, offN key x.nm p, skN key x.nm p, 0⟩
/-- Ahead of visit v: quanta, credit, preference, and the choices that were tried are taken. -/
def TrAt (T : Tb) (O K : Nat → Nat) (v : Nat) (ts : List Trn) : Prop :=
  ts.length = T.n ∧ ∀ j, j < T.n → ∃ nx, ts[j]? = some ⟨T.q j, T.rd j v * T.q j % T.G, O j, K j, nx⟩ ∧ nx ≤ T.m ∧ ∀ i, i < nx → ∃ y, (T.tab v)[T.ch j i]? = some y ∧ 0 ≤ y
variable {T : Tb} {O K : Nat → Nat} {ts : List Trn} {r j : Nat}
theorem TrAt.own (h : TrAt T O K (r * T.n + j) ts) (hj : j < T.n) : ∃ nx, ts[j]? = some ⟨T.q j, r * T.q j % T.G, O j, K j, nx⟩ ∧ nx ≤ T.m ∧ ∀ i, i < nx → ∃ y, (T.tab (r * T.n + j))[T.ch j i]? = some y ∧ 0 ≤ y := by
  have h1 := T.rd_own (r * T.n + j)
  rw [visit_mod hj, visit_div hj] at h1
  have h2 := h.2 j hj
  rw [h1] at h2
  exact h2
theorem TrAt.next (h : TrAt T O K (r * T.n + j) ts) (hj : j < T.n) {nx : Nat} (hm : nx ≤ T.m) (ht : ∀ i, i < nx → ∃ y, (T.tab (r * T.n + j + 1))[T.ch j i]? = some y ∧ 0 ≤ y) :
    TrAt T O K (r * T.n + j + 1) (ts.set j ⟨T.q j, (r + 1) * T.q j % T.G, O j, K j, nx⟩) := by
  have hn : 0 < T.n := by omega
  refine ⟨by rw [List.length_set]; exact h.1, fun i hi => ?_⟩
  rw [T.rd_succ hn hi, visit_mod hj]
  by_cases hij : i = j
  · subst hij
    have h1 := T.rd_own (r * T.n + i)
    rw [visit_mod hj, visit_div hj] at h1
    rw [if_pos rfl, h1]
    exact ⟨nx, List.getElem?_set_self (by rw [h.1]; exact hi), hm, ht⟩
  · obtain ⟨n2, h1, h2, h3⟩ := h.2 i hi
    rw [if_neg hij, Nat.add_zero]
    refine ⟨n2, by rw [List.getElem?_set_ne (fun e => hij e.symm)]; exact h1, h2, fun k hk => ?_⟩
    obtain ⟨y, h4, h5⟩ := h3 k hk
    exact ⟨y, T.tab_keep h4 h5 1, h5⟩
theorem pay_take (ht : T.Ok) (hj : j < T.n) (o k nx : Nat) : payB T.G ⟨T.q j, r * T.q j % T.G, o, k, nx⟩ = T.take (r * T.n + j) ∧ payT T.G ⟨T.q j, r * T.q j % T.G, o, k, nx⟩ = ⟨T.q j, (r + 1) * T.q j % T.G, o, k, nx⟩ := by
  obtain ⟨h1, h2⟩ := T.credit ht (r := r) hj
  refine ⟨by rw [h1]; rfl, ?_⟩
  unfold payT crAft
  dsimp only
  rw [h2]
/-- The first turns. -/
theorem TrAt.start {key : List UInt8} {p : Nat} {R : List Shr} : TrAt (tbOf key p R) (fun j => offN key (atS R j).nm p) (fun j => skN key (atS R j).nm p) 0 (R.map (trOf key p)) := by
  refine ⟨List.length_map _, fun j hj => ⟨0, ?_, Nat.zero_le _, fun i hi => absurd hi (by omega)⟩⟩
  have hr : (tbOf key p R).rd j 0 = 0 := by
    unfold Tb.rd
    rw [Nat.zero_div, Nat.zero_mod, if_neg (Nat.not_lt_zero _)]
  rw [hr, Nat.zero_mul, Nat.zero_mod, List.getElem?_map, atS_get hj]
  rfl
theorem best_of (key : List UInt8) (p : Nat) : ∀ (R : List Shr) (n : Nat), (∀ x, x ∈ R → 0 ≤ x.q) → (((R.map (trOf key p)).foldl (fun n x => if n < x.q then x.q else n) n : Nat) : Int) = R.foldl bestF (n : Int)
  | [], _, _ => rfl
  | x :: R, n, h => by
    have hx := h x List.mem_cons_self
    rw [List.map_cons, List.foldl_cons, List.foldl_cons, best_of key p R _ (fun y hy => h y (List.mem_cons_of_mem _ hy))]
    congr 1
    unfold bestF trOf
    dsimp only
    by_cases h1 : n < x.q.toNat
    · rw [if_pos h1, if_pos (by omega)]
      omega
    · rw [if_neg h1, if_neg (by omega)]
theorem best_tr {key : List UInt8} {p : Nat} {R : List Shr} (h : ∀ x, x ∈ R → 0 ≤ x.q) : bestT (R.map (trOf key p)) = (tbOf key p R).G := by
  have h1 : ((bestT (R.map (trOf key p)) : Nat) : Int) = bestL R := best_of key p R 0 h
  have h2 := bestL_pos R
  show _ = (bestL R).toNat
  omega
end Go.Proofs.Ytmngagcekhlppaa
namespace Go.Proofs.Ytmngagcekhlppaa
set_option maxRecDepth 100000
open Go.RowKit Go.Lib

theorem cellsZ : ∀ l : List Int, eZ.cells l = l.map fun z => Value.int .i64 z
  | [] => rfl
  | x :: l => by
    show [Value.int .i64 x] ++ eZ.cells l = _
    rw [cellsZ l]
    rfl
theorem OwnG.blk {w : World} {base p g : Nat} {xs : List Int} (h : OwnG eZ w base (.slice (some ⟨g, 0, none⟩) p p) xs) : Blk w 3 g (eZ.cells xs) := by
  rcases h.2 with ⟨e, _⟩ | ⟨g', cap, cur, e, hb, hg, hnc, hcm, hcs, ht⟩
  · cases e
  · cases e
    have h1 : cur.toList.length = xs.length * eZ.k := by rw [Array.length_toList, hcs]
    rw [← h1, List.take_length] at ht
    show w.heap[g]? = some (.cells (eZ.cells xs).toArray _ (0, 0))
    rw [← ht]
    exact hg
theorem OwnG.ofBlk {w : World} {base p g : Nat} {xs : List Int} (h : Blk w 3 g (eZ.cells xs)) (hb : base ≤ g) (hl : xs.length = p) (hm : p ≤ maxLen) : OwnG eZ w base (.slice (some ⟨g, 0, none⟩) p p) xs := by
  subst hl
  refine ⟨by rw [Enc.cells_len], .inr ⟨g, xs.length, (eZ.cells xs).toArray, rfl, hb, h, Nat.le_refl _, hm, ?_, ?_⟩⟩
  · rw [List.size_toArray, Enc.cells_len]
  · show (eZ.cells xs).take (xs.length * eZ.k) = eZ.cells xs
    rw [← Enc.cells_len, List.take_length]
theorem info1_int : (Try.prog.info? 3).map (·.size) = some 1 := by kernel_rfl
theorem run_copyB {w : World} (g off dL dC : Nat) (ad : Addr) (sL sC : Nat) (ty : TypeId) (cur : List Value) (hb : Blk w 3 g cur) (cs : List Value) (hn : cs.length = Nat.min sL dL) (hsrc : ∀ j v, cs[j]? = some v → w.cell? (ad.add j) = some v) (hfit : off + cs.length ≤ cur.length) (h1 : ∀ v ∈ cs, v.oneCell' = true) :
    ∃ w', (Builtin.copy_ #[28, 28] ty #[.slice (some ⟨g, off, none⟩) dL dC, .slice (some ad) sL sC]).run Try.prog w = .ok (.int .i64 (cs.length : Int)) w' ∧ Blk w' 3 g (cur.take off ++ cs ++ cur.drop (off + cs.length)) ∧ w.grownBy w' (some g) := by
  refine ⟨_, run_copy_row (P := Try.prog) w 28 28 ty 3 g off dL dC ad sL sC cur.toArray 3 cs Try.underlying28 info1_int hb hn hsrc (by simpa using hfit) h1, ?_, gb_setRow1 w g _⟩
  exact Blk_10.setRow_ hb _
theorem wpList_copyB {w : World} {ops : Array Oper} {rest : List Oper} {o : Oper} {a : Act} {Q : Exit → Act → World → Prop} (hgd : o.guard = none) (d s : Operand)
    (ho : o.op = .call { callee := .builtin .copy, args := #[d, s], argTypes := #[28, 28] })
    (g off dL dC : Nat) (ad : Addr) (sL sC : Nat) (hd : a.eval d = .slice (some ⟨g, off, none⟩) dL dC) (hs : a.eval s = .slice (some ad) sL sC) (cur : List Value) (hb : Blk w 3 g cur) (cs : List Value) (hn : cs.length = Nat.min sL dL) (hsrc : ∀ j v, cs[j]? = some v → w.cell? (ad.add j) = some v) (hfit : off + cs.length ≤ cur.length) (h1 : ∀ v ∈ cs, v.oneCell' = true)
    (h : ∀ w', Blk w' 3 g (cur.take off ++ cs ++ cur.drop (off + cs.length)) → w.grownBy w' (some g) → wpList Try.prog ops Q rest (a.put o.dst (.int .i64 (cs.length : Int))) w') : wpList Try.prog ops Q (o :: rest) a w := by
  refine wpList_plain hgd fun K hK => ?_
  obtain ⟨w', hrun, h2, h3⟩ := run_copyB g off dL dC ad sL sC o.type cur hb cs hn hsrc hfit h1
  unfold Oper.wp execOp
  simp only [ho, resolve, invoke, builtin, Sem.run_bind, Sem.run_pure, Result.andThen_ok, List.map_toArray, List.map_cons, List.map_nil, hd, hs, hrun]
  exact hK _ _ (h w' h2 h3)
theorem step_copyB {w : World} {ops : Array Oper} {o : Oper} {a : Act} {K : Act → World → Prop} {Q : Exit → Act → World → Prop} {D : Prop} (hgd : o.guard = none) (d s : Operand)
    (ho : o.op = .call { callee := .builtin .copy, args := #[d, s], argTypes := #[28, 28] })
    (g off dL dC : Nat) (ad : Addr) (sL sC : Nat) (hd : a.eval d = .slice (some ⟨g, off, none⟩) dL dC) (hs : a.eval s = .slice (some ad) sL sC) (cur : List Value) (hb : Blk w 3 g cur) (cs : List Value) (hn : cs.length = Nat.min sL dL) (hsrc : ∀ j v, cs[j]? = some v → w.cell? (ad.add j) = some v) (hfit : off + cs.length ≤ cur.length) (h1 : ∀ v ∈ cs, v.oneCell' = true)
    (h : ∀ w', Blk w' 3 g (cur.take off ++ cs ++ cur.drop (off + cs.length)) → w.grownBy w' (some g) → K (a.put o.dst (.int .i64 (cs.length : Int))) w') : if Region.wanted o (yielded ops a.tmps) = true then Oper.wp Try.prog o a w K Q else D := by
  have hw : Region.wanted o (yielded ops a.tmps) = true := by simp [Region.wanted, hgd]
  rw [if_pos hw]
  obtain ⟨w', hrun, h2, h3⟩ := run_copyB g off dL dC ad sL sC o.type cur hb cs hn hsrc hfit h1
  unfold Oper.wp execOp
  simp only [ho, resolve, invoke, builtin, Sem.run_bind, Sem.run_pure, Result.andThen_ok, List.map_toArray, List.map_cons, List.map_nil, hd, hs, hrun]
  exact h w' h2 h3
/-- The first k are laid, behind them noughts. -/
def rowZ (p k : Nat) : List Int := List.replicate k (-1) ++ List.replicate (p - k) 0
theorem rowZ_len {p k : Nat} (h : k ≤ p) : (rowZ p k).length = p := by
  unfold rowZ
  rw [List.length_append, List.length_replicate, List.length_replicate]
  omega
theorem cellsZ_len (l : List Int) : (eZ.cells l).length = l.length := by rw [cellsZ, List.length_map]
theorem rowZ_all (p : Nat) : rowZ p p = List.replicate p (-1) := by simp [rowZ]
theorem rowZ_zero (p : Nat) : rowZ p 0 = List.replicate p 0 := by simp [rowZ]
theorem rowZ_splice (p k m : Nat) : (eZ.cells (rowZ p k)).take k ++ List.replicate m (Value.int .i64 (-1)) ++ (eZ.cells (rowZ p k)).drop (k + (List.replicate m (Value.int .i64 (-1))).length) = eZ.cells (rowZ p (k + m)) := by
  rw [cellsZ, cellsZ, List.length_replicate]
  unfold rowZ
  rw [List.map_append, List.map_append, List.map_replicate, List.map_replicate, List.map_replicate, List.map_replicate]
  rw [List.take_append, List.take_replicate, List.length_replicate, Nat.min_self, Nat.sub_self, List.take_zero, List.append_nil]
  rw [List.drop_append, List.drop_replicate, List.length_replicate, List.drop_replicate, show k - (k + m) = 0 by omega, show k + m - k = m by omega, List.replicate_zero, List.nil_append, List.replicate_append_replicate, show p - k - m = p - (k + m) by omega]
theorem rowZ_src {p k m g : Nat} {w : World} (hm : m ≤ k) (hb : Blk w 3 g (eZ.cells (rowZ p k))) : ∀ j v, (List.replicate m (Value.int .i64 (-1)))[j]? = some v → w.cell? ((⟨g, 0, none⟩ : Addr).add j) = some v := fun j v hv => by
  rw [List.getElem?_replicate] at hv
  split at hv
  · cases hv
    rw [add_plain, Nat.zero_add]
    refine hb.cell (i := j) ?_
    rw [cellsZ, List.getElem?_map]
    unfold rowZ
    rw [List.getElem?_append_left (by rw [List.length_replicate]; omega), List.getElem?_replicate, if_pos (by omega)]
    rfl
  · cases hv
set_option maxHeartbeats 4000000 in
theorem prepeat_any (p : Nat) (hp : SizeN p) (b : Nat) (w : World) (hb : Blk w 3 b [.int .i64 (-1)]) :
    Calls Try.prog 40 #[.slice (some ⟨b, 0, none⟩) 1 1, .int .i64 (p : Int)] w fun e W' => ∃ g, e = .returned (.slice (some ⟨g, 0, none⟩) p p) ∧ w.heap.size ≤ g ∧ OwnG eZ W' w.heap.size (.slice (some ⟨g, 0, none⟩) p p) (List.replicate p (-1)) ∧ Below w.heap.size w W' := by
  have hp2 := hp.two
  have hpm := hp.most
  have HB0 := Lib.hid hb
  have hbl := Blk_10.lt hb
  have HM : Hid (Calls Try.prog 53 #[.int .u64 1, .int .u64 (p : Int)] w fun e w' => e = .returned (.tuple #[.int .u64 0, .int .u64 (p : Int)]) ∧ w = w') := Lib.hid (by
    have h := Any.bits_Mul bitsMul 1 p (by omega) (by omega) w
    rw [show 1 * p / 18446744073709551616 = 0 by omega, show 1 * p % 18446744073709551616 = p by omega] at h
    exact h.mono fun _ _ h => ⟨h.1, h.2.symm⟩)
  obtain ⟨w1, hrun, hown, hg1⟩ := run_makeG eZ 0 rfl p (by omega) w.heap.size w (Nat.le_refl _)
  obtain ⟨g, hg⟩ : ∃ g, w.heap.size = g := ⟨_, rfl⟩
  have hrun2 : (Instr.makeSlice 28 (.int .i64 (p : Int)) (.int .i64 (p : Int))).run Try.prog w = .ok (.slice (some ⟨w.heap.size, 0, none⟩) p p) w1 := hrun
  have HG := Lib.hid hg
  rw [hg] at hrun2
  have HR1 : Hid (Blk w1 3 g (eZ.cells (rowZ p 0))) := Lib.hid (by rw [rowZ_zero, ← hg]; exact hown.blk)
  have HB1 : Hid (Below w.heap.size w w1) := Lib.hid ((Below.refl _ _).grown hg1 (Nat.le_refl _) (fun k hk => by cases hk))
  have HS1 : Hid (Blk w1 3 b [.int .i64 (-1)]) := Lib.hid (Blk.gb hb hg1 (fun e => by cases e))
  have k0 : IntKind.u64.wrap (p : Int) = (p : Int) := by simp [IntKind.wrap, IntKind.bits, IntKind.signed]; omega
  have k1 : IntKind.i64.wrap (p : Int) = (p : Int) := wrapI _ (by omega) (by omega)
  have k2 : ¬ (p : Int) < 0 := by omega
  have k3 : ¬ 9223372036854775807 < (p : Int) := by omega
  have HPM := Lib.hid hpm
  have HP2 := Lib.hid hp2
  clear hrun hown hg1 hb hg hbl hpm
  go_enter Try.func40, Try.ntmps40
  go_wp2_with (first
    | (go_at_call 53; refine HM.out.mono ?_; rintro e w' ⟨rfl, rfl⟩)
    | ((with_reducible show wpList _ _ _ (⟨some 33, _, _, _, _, _⟩ :: _) _ _); refine wpList_copyB rfl (.tmp 31) (.tmp 32) rfl g 0 p p ⟨b, 0, none⟩ 1 1 (by rfl) (by rfl) _ HR1.out [.int .i64 (-1)] (by show 1 = Nat.min 1 p; exact (Nat.min_eq_left (by omega)).symm) (fun j v hv => by rw [add_plain, Nat.zero_add]; exact HS1.out.cell (i := j) hv) (by rw [cellsZ_len, rowZ_len (Nat.zero_le _)]; show 0 + 1 ≤ p; omega) (fun v hv => by rw [List.mem_singleton.1 hv]; rfl) ?_; intro w2 hb2 hg2; have HR2 : Hid (Blk w2 3 g (eZ.cells (rowZ p 1))) := Lib.hid (by rw [← rowZ_splice p 0 1]; exact hb2); have HB2 := Lib.hid (below_gb HB1.out hg2 (by rw [HG.out]; exact Nat.le_refl _) HB1.out.size); clear hb2 hg2))
  clear k0 k1 k2 k3
  go_loopw [8] (fun v wr => ∃ k : Nat, 1 ≤ k ∧ k ≤ p ∧ v = .int .i64 (k : Int) ∧ Blk wr 3 g (eZ.cells (rowZ p k)) ∧ Below w.heap.size w wr)
    (fun v _ => p - (intOf v).toNat)
  case atStart => exact ⟨1, Nat.le_refl _, by have := HP2.out; omega, rfl, HR2.out, HB2.out⟩
  case round =>
    clear HR2 HB2
    obtain ⟨k, hk1, hk, rfl, hb, hbel⟩ := hrel
    have HR := Lib.hid hb
    have HB := Lib.hid hbel
    clear hb hbel
    by_cases hlt : k < p
    · have h1 : (k : Int) < (p : Int) := by omega
      have h0 : (0 : Int) ≤ (k : Int) := by omega
      have hne : ¬ p = k := by omega
      have hkp : k ≤ p := by omega
      have hkp2 : ¬ p < k := by omega
      obtain ⟨m, hm⟩ : ∃ m, Nat.min k (p - k) = m := ⟨_, rfl⟩
      have hm1 : m ≤ k := by rw [← hm]; exact Nat.min_le_left _ _
      have hm2 : m ≤ p - k := by rw [← hm]; exact Nat.min_le_right _ _
      have hm3 : 1 ≤ m := by rw [← hm]; exact Nat.le_min.2 ⟨hk1, by omega⟩
      have HMN := Lib.hid hm
      have HML := Lib.hid hm1
      have HMR := Lib.hid hm2
      have HM3 := Lib.hid hm3
      have HLT := Lib.hid hlt
      have hpm := HPM.out
      have HW := Lib.hid (wrapI ((k : Int) + (m : Int)) (by omega) (by omega))
      clear hm hm1 hm2 hm3 hk1 hk
      go_wp2_with fail
      refine wp_region_held_drew (S := fun W => True) (by kernel_rfl) (trivial) (fun hHeld => ?_)
      have HR9 : Hid (Blk wr.drew 3 g (eZ.cells (rowZ p k))) := Lib.hid HR.out
      have HB9 : Hid (Below w.heap.size w wr.drew) := Lib.hid HB.out.drew
      clear HR HB
      generalize wr.drew = X1 at HR9 HB9 ⊢
      refine tk 0 38 ((.int .i64 (k : Int))) rfl hHeld ?_
      simp only [Act.put, sA, sZ, sS]
      refine tk 1 39 ((.slice (some ⟨g, 0, none⟩) p p)) rfl hHeld ?_
      simp only [Act.put, sA, sZ, sS]
      refine tk 2 40 ((.int .i64 (k : Int))) rfl hHeld ?_
      simp only [Act.put, sA, sZ, sS]
      refine tk 3 41 ((.slice (some ⟨g, k, none⟩) (p - k) (p - k))) rfl hHeld ?_
      simp only [Act.put, sA, sZ, sS]
      refine tk 4 42 ((.slice (some ⟨g, 0, none⟩) p p)) rfl hHeld ?_
      simp only [Act.put, sA, sZ, sS]
      refine tk 5 43 ((.int .i64 (k : Int))) rfl hHeld ?_
      simp only [Act.put, sA, sZ, sS]
      refine tk 6 44 ((.slice (some ⟨g, 0, none⟩) k p)) rfl hHeld ?_
      simp only [Act.put, sA, sZ, sS]
      refine wpAnyH_ready (rs := [7]) (by kernel_rfl) (by simp) (AllReadyH.cons (o := ⟨some 45, _, _, _, _, _⟩) rfl (fun K hK => ?_) AllReadyH.nil)
      refine step_copyB rfl (.tmp 41) (.tmp 44) rfl g k (p - k) (p - k) ⟨g, 0, none⟩ k p (by rfl) (by rfl) _ HR9.out (List.replicate m (.int .i64 (-1))) (by rw [List.length_replicate]; exact HMN.out.symm) (rowZ_src HML.out HR9.out) (by rw [cellsZ_len, rowZ_len (Nat.le_of_lt HLT.out), List.length_replicate]; have h9 := HMR.out; have h8 := HLT.out; omega) (fun v hv => by rw [List.eq_of_mem_replicate hv]; rfl) ?_
      intro W2 hb2 hg2
      rw [rowZ_splice] at hb2
      have HR3 := Lib.hid hb2
      have HB3 := Lib.hid (below_gb HB9.out hg2 (by rw [HG.out]; exact Nat.le_refl _) HB9.out.size)
      clear hb2 hg2
      rw [List.length_replicate]
      refine hK.out _ _ (trivial) (fun hHeld => ?_)
      clear hK K 
      refine tkY 8 46 ((.int .i64 ((k : Int) + (m : Int)))) rfl (Or.inl ⟨by rfl, fun _ _ => by have hw1 := HW.out; go_simp⟩) hHeld ?_
      simp only [Act.put, sA, sZ, sS]
      refine tk 9 8 ((.int .i64 ((k : Int) + (m : Int)))) rfl hHeld ?_
      simp only [Act.put, sA, sZ, sS]
      refine wpAnyH_done (by kernel_rfl) ?_ _
      clear hHeld HR9 HB9
      go_roundw
      case rel =>
        refine ⟨_, _, _, _, _, _, _, _, _, _, _, _, _, _, ?_, rfl⟩
        exact ⟨k + m, by have h9 := HM3.out; omega, by have h9 := HMR.out; have h8 := HLT.out; omega, by rw [Int.natCast_add], HR3.out, HB3.out⟩
      case measure =>
        have h9 := HM3.out
        have h8 := HLT.out
        simp [intOf]
        omega
    · obtain rfl : k = p := by omega
      have h1 : ¬ (k : Int) < (k : Int) := by omega
      clear hlt hk hk1
      go_wp2_with fail
      go_ret
      refine ⟨g, rfl, by rw [HG.out]; exact Nat.le_refl _, ?_, HB.out⟩
      rw [← rowZ_all]
      exact OwnG.ofBlk HR.out (by rw [HG.out]; exact Nat.le_refl _) (rowZ_len (Nat.le_refl _)) (by have := HPM.out; unfold maxLen; omega)
end Go.Proofs.Ytmngagcekhlppaa
namespace Go.Proofs.Ytmngagcekhlppaa
set_option maxRecDepth 100000
open Go.RowKit Go.Lib

/-- What holds ahead of visit v: slots, turns, and what else is as it was. -/
structure L4 (T : Tb) (O K : Nat → Nat) (w0 : World) (base n c gt gs p v : Nat) (ts : List Trn) (w : World) : Prop where
  slots : OwnG eZ w w0.heap.size (.slice (some ⟨gs, 0, none⟩) p p) (T.tab v)
  turns : OwnG eT w base (.slice (some ⟨gt, 0, none⟩) n c) ts
  at_ : TrAt T O K v ts
  gb : w0.grownBy w (some gt)
variable {T : Tb} {O K : Nat → Nat} {w0 w w' : World} {base n c gt gs p v : Nat} {ts ts' : List Trn}
theorem L4.drewN (h : L4 T O K w0 base n c gt gs p v ts w) (k : Nat) : L4 T O K w0 base n c gt gs p v ts (w.drewN k) := ⟨h.slots, h.turns, h.at_, ⟨h.gb.os, h.gb.tape, h.gb.output, h.gb.size, h.gb.block⟩⟩
set_option maxHeartbeats 4000000 in
theorem pfill_nil (p : Nat) (w : World) : Calls Try.prog 29 #[.int .i64 (p : Int), .slice none 0 0] w fun e w' => e = .returned (.slice none 0 0) ∧ w = w' := by
  go_enter Try.func29, Try.ntmps29
  go_wp2_with fail
  go_step3
  go_wp2_with fail
  (try rw [Exit.noGoto_ret])
  go_ret
  exact ⟨rfl, rfl⟩
set_option maxHeartbeats 16000000 in
theorem pfill_any (key : List UInt8) (R : List Shr) (hR : R ≠ []) (hF : Full R) (p : Nat) (hp : SizeN p) (base n c gt : Nat) (w : World) (h : OwnG eT w base (.slice (some ⟨gt, 0, none⟩) n c) (R.map (trOf key p))) :
    Calls Try.prog 29 #[.int .i64 (p : Int), .slice (some ⟨gt, 0, none⟩) n c] w fun e W' => ∃ v, e = .returned v ∧ OwnG eZ W' w.heap.size v (slotL key p R) ∧ w.grownBy W' (some gt) := by
  have hnl := h.lenEq
  rw [List.length_map] at hnl
  have hn0 : 0 < n := by rw [hnl]; exact List.length_pos_iff.2 hR
  have hn4 : n ≤ 1024 := by rw [hnl]; exact hF.few
  have hgt := h.ltS gt rfl
  obtain ⟨T, hT⟩ : ∃ T, tbOf key p R = T := ⟨_, rfl⟩
  have HOK : Hid T.Ok := Lib.hid (by rw [← hT]; exact hF.ok hR key hp)
  have HTN : Hid (T.n = n) := Lib.hid (by rw [← hT, hnl]; rfl)
  have HTM : Hid (T.m = p) := Lib.hid (by rw [← hT]; rfl)
  have HBT : Hid (bestT (R.map (trOf key p)) = T.G) := Lib.hid (by rw [← hT]; exact best_tr (fun x hx => Int.le_of_lt (hF.qu x hx).1))
  have HTG : Hid (T.G ≤ 1024000) := Lib.hid (by rw [← hT]; have h9 := (hF.best hR).2; show (bestL R).toNat ≤ 1024000; omega)
  have HSL : Hid (slotL key p R = T.out) := Lib.hid (by unfold slotL; rw [if_neg hR, hT])
  obtain ⟨O, hO⟩ : ∃ O, (fun j => offN key (atS R j).nm p) = O := ⟨_, rfl⟩
  obtain ⟨K, hK⟩ : ∃ K, (fun j => skN key (atS R j).nm p) = K := ⟨_, rfl⟩
  have HST : Hid (TrAt T O K 0 (R.map (trOf key p))) := Lib.hid (by rw [← hT, ← hO, ← hK]; exact TrAt.start)
  have HCH : Hid (∀ j i, T.ch j i = chN (O j) (K j) p i) := Lib.hid (by rw [← hT, ← hO, ← hK]; exact fun _ _ => rfl)
  have HOL : Hid (∀ j, O j < p) := Lib.hid (by rw [← hO]; exact fun j => offN_lt hp key (atS R j).nm)
  have HKL : Hid (∀ j, K j < p) := Lib.hid (by rw [← hK]; exact fun j => (skN_lt hp key (atS R j).nm).2)
  have HP := Lib.hid hp
  have hpm := hp.most
  have hp2 := hp.two
  obtain ⟨ts, hts⟩ : ∃ ts, R.map (trOf key p) = ts := ⟨_, rfl⟩
  rw [hts] at h HBT HST
  rw [HSL.out]
  have HGR : Hid (∀ W, OwnG eT W base (.slice (some ⟨gt, 0, none⟩) n c) ts → Calls Try.prog 41 #[.slice (some ⟨gt, 0, none⟩) n c] W fun e w' => e = .returned (.int .i64 (T.G : Nat)) ∧ Below W.heap.size W w') := Lib.hid (fun W hW => by rw [← HBT.out]; exact pgreatest_any hn4 W hW)
  have hRB : ∀ (b : Nat) (W : World), Blk W 3 b [.int .i64 (-1)] → Calls Try.prog 40 #[.slice (some ⟨b, 0, none⟩) 1 1, .int .i64 (p : Int)] W fun e W' => ∃ g, e = .returned (.slice (some ⟨g, 0, none⟩) p p) ∧ W.heap.size ≤ g ∧ OwnG eZ W' W.heap.size (.slice (some ⟨g, 0, none⟩) p p) (List.replicate p (-1)) ∧ Below W.heap.size W W' := fun b W hb => prepeat_any p hp b W hb
  have HRB := Lib.hid hRB
  obtain ⟨Y, hY⟩ : ∃ Y, w.alloc (.cells #[.int .i64 (-1)] 3) = Y := ⟨_, rfl⟩
  have HY := Lib.hid hY
  have HB0 := Lib.hid (show Below w.heap.size w Y by rw [← hY]; exact (Below.refl w.heap.size w).alloc (Nat.le_refl _) _)
  have HG0 := Lib.hid (show Blk Y 3 w.heap.size [.int .i64 (-1)] by rw [← hY]; exact Blk_10.new w _ [.int .i64 (-1)])
  have HSZ := Lib.hid (show Y.heap.size = w.heap.size + 1 by rw [← hY]; simp)
  have HO0 := Lib.hid h
  have HN0 := Lib.hid hn0
  have HGT := Lib.hid hgt
  have hnz : ((n : Int) == 0) = false := beq_eq_false_iff_ne.2 (by omega)
  clear hnl hR hF hT hO hK hp hts h hRB hY hgt hn0
  go_enter Try.func29, Try.ntmps29
  go_wp2_with fail
  go_step3
  go_wp2_with (first
    | (go_at_call 40; rw [HY.out]; refine (HRB.out w.heap.size Y HG0.out).mono ?_; rintro e W1 ⟨gs, rfl, hgs, hown1, hb1⟩; have HGS : Hid (w.heap.size ≤ gs) := Lib.hid (Nat.le_trans HB0.out.size hgs); have HOS := Lib.hid (hown1.base_le HB0.out.size); have HB1 := Lib.hid (HB0.out.trans (hb1.mono HB0.out.size)); clear hgs hown1 hb1)
    | (go_at_call 41; refine (HGR.out W1 (HO0.out.below HB1.out)).mono ?_; rintro e W2 ⟨rfl, hb2⟩; have HOS2 := Lib.hid (HOS.out.below hb2); have HB2 := Lib.hid (HB1.out.trans (hb2.mono HB1.out.size)); clear hb2))
  go_step3
  go_wp2_with fail
  clear hnz HRB HY HB0 HG0 HSZ HGR
  have HGE : Hid (gs ≠ gt) := Lib.hid (by have h9 := HGS.out; have h8 := HGT.out; omega)
  have HL0 : Hid (L4 T O K w base n c gt gs p 0 ts W2) := Lib.hid ⟨by rw [T.tab_zero, HTM.out]; exact HOS2.out, HO0.out.below HB2.out, HST.out, ⟨HB2.out.os, HB2.out.tape, HB2.out.output, HB2.out.size, fun k hk _ => HB2.out.block k hk⟩⟩
  clear HO0 HOS HOS2 HB1 HB2 HST
  go_loopw [6] (fun lf wr => ∃ (r : Nat) (ts2 : List Trn), lf = .int .i64 ((freeN (T.tab (r * T.n)) : Nat) : Int) ∧ 0 < freeN (T.tab (r * T.n)) ∧ L4 T O K w base n c gt gs p (r * T.n) ts2 wr)
    (fun lf _ => (intOf lf).toNat)
  case atStart => exact ⟨0, ts, by rw [Nat.zero_mul, T.free_zero0, HTM.out], by rw [Nat.zero_mul, T.free_zero0, HTM.out]; omega, by rw [Nat.zero_mul]; exact HL0.out⟩
  case round =>
    clear HL0
    obtain ⟨r, ts2, rfl, hf0, hL⟩ := hrel
    have HL := Lib.hid hL
    obtain ⟨f0, hf⟩ : ∃ f, freeN (T.tab (r * T.n)) = f := ⟨_, rfl⟩
    rw [hf] at hf0 ⊢
    have HF := Lib.hid hf
    have HF0 := Lib.hid hf0
    clear hL hf hf0
    obtain ⟨wo, hwo⟩ : ∃ z, z = wr := ⟨_, rfl⟩
    subst hwo
    go_wp2_with fail
    go_loopw [6, 21] (fun lf i wr => ∃ (j : Nat) (ts3 : List Trn), j ≤ n ∧ i = .int .i64 (j : Int) ∧ lf = .int .i64 ((freeN (T.tab (r * T.n + j)) : Nat) : Int) ∧ 0 < freeN (T.tab (r * T.n + j)) ∧ L4 T O K w base n c gt gs p (r * T.n + j) ts3 wr)
      (fun _ i _ => n - (intOf i).toNat)
    case atStart => exact ⟨0, ts2, Nat.zero_le _, rfl, by rw [Nat.add_zero, HF.out], by rw [Nat.add_zero, HF.out]; exact HF0.out, HL.out⟩
    case round =>
      clear HL
      obtain ⟨j, ts3, hj, rfl, rfl, hpos, hL⟩ := hrel
      have HL := Lib.hid hL
      have HPO := Lib.hid hpos
      clear hL
      by_cases hlt : j < n
      · have h1 : (j : Int) < (n : Int) := by omega
        have h0 : (0 : Int) ≤ (j : Int) := by omega
        have hjn : j < T.n := by rw [HTN.out]; exact hlt
        have HJN := Lib.hid hjn
        have HLT := Lib.hid hlt
        obtain ⟨nx, hx, hxm, hxt⟩ := HL.out.at_.own hjn
        have hqG := HOK.out.le j hjn
        have hcG := Nat.mod_lt (r * T.q j) HOK.out.g0
        have hpt := pay_take HOK.out (r := r) hjn (O j) (K j) nx
        have HPY := Lib.hid (fun (W : World) (h : OwnG eT W base (.slice (some ⟨gt, 0, none⟩) n c) ts3) => ppays_any hx hqG hcG HTG.out W h)
        have HX := Lib.hid hx
        rw [hpt.1, hpt.2] at HPY
        have hfm : freeN (T.tab (r * T.n + j)) ≤ p := by rw [← HTM.out, ← T.tab_len (r * T.n + j)]; exact List.countP_le_length
        obtain ⟨q', hq'⟩ : ∃ x, (⟨T.q j, (r + 1) * T.q j % T.G, O j, K j, nx⟩ : Trn) = x := ⟨_, rfl⟩
        rw [hq'] at HPY
        have HQ := Lib.hid hq'
        cases htk : T.take (r * T.n + j) with
        | false =>
          rw [htk] at HPY
          have HN := Lib.hid (HL.out.at_.next hjn hxm (fun i hi => by
            obtain ⟨y, h4, h5⟩ := hxt i hi
            exact ⟨y, T.tab_keep h4 h5 1, h5⟩))
          rw [hq'] at HN
          have HTI := Lib.hid (T.tab_idle htk)
          obtain ⟨f, hf⟩ : ∃ f, freeN (T.tab (r * T.n + j)) = f := ⟨_, rfl⟩
          rw [hf]
          have HF2 := Lib.hid hf
          clear hx hxm hxt hqG hcG hpt hfm hq' htk hpos hlt hjn hj hf
          go_wp2_with (go_at_call 42; refine (HPY.out wr HL.out.turns).mono ?_; rintro e w3 ⟨rfl, ho3, hg3⟩; have HO3 := Lib.hid ho3; have HG3 := Lib.hid hg3; clear ho3 hg3)
          go_roundw
          case rel => exact ⟨j + 1, _, HLT.out, (by have := HLT.out; go_num), by rw [← Nat.add_assoc, HTI.out, HF2.out], by rw [← Nat.add_assoc, HTI.out]; exact HPO.out, ⟨by rw [← Nat.add_assoc, HTI.out]; exact HL.out.slots.kept HG3.out (.inr fun e => HGE.out (by cases e; rfl)), HO3.out, HN.out, HL.out.gb.trans HG3.out⟩⟩
          case measure =>
            have := HLT.out
            simp [intOf]
            omega
        | true =>
          rw [htk] at HPY
          obtain ⟨k, y, hkm, hy1, hy2, hy3, hset, hfree⟩ := T.visit_take HOK.out HPO.out htk
          rw [visit_mod hjn] at hy1 hy3 hset
          have hkp : k < p := by rw [← HTM.out]; exact hkm
          have hym : y = -1 := by
            rcases T.tab_range HOK.out.n0 _ y (List.mem_of_getElem? hy1) with h9 | h9
            · exact h9
            · omega
          have hnk : nx ≤ k := by
            rcases Nat.lt_or_ge k nx with h9 | h9
            · obtain ⟨z, h4, h5⟩ := hxt k h9
              rw [hy1] at h4
              cases h4
              omega
            · exact h9
          have HN := Lib.hid (HL.out.at_.next hjn (nx := k + 1) (by rw [HTM.out]; exact hkp) (fun i hi => by
            rcases Nat.lt_or_ge i k with hik | hik
            · obtain ⟨z, h4, h5⟩ := hy3 i hik
              exact ⟨z, T.tab_keep h4 h5 1, h5⟩
            · obtain rfl : i = k := by omega
              rw [hset]
              exact ⟨_, List.getElem?_set_self (List.getElem?_eq_some_iff.1 hy1).1, by omega⟩))
          have hl3 : j < ts3.length := (List.getElem?_eq_some_iff.1 hx).1
          have HCS : Hid (∀ (W : World) (_ : OwnG eT W base (.slice (some ⟨gt, 0, none⟩) n c) (ts3.set j q')) (_ : OwnG eZ W w.heap.size (.slice (some ⟨gs, 0, none⟩) p p) (T.tab (r * T.n + j))), Calls Try.prog 43 #[.pointer (some ⟨gt, j * 5, none⟩), .slice (some ⟨gs, 0, none⟩) p p] W fun e W' => e = .returned (.int .i64 (T.ch j k : Nat)) ∧ OwnG eT W' base (.slice (some ⟨gt, 0, none⟩) n c) (ts3.set j ⟨T.q j, (r + 1) * T.q j % T.G, O j, K j, k + 1⟩) ∧ W.grownBy W' (some gt)) := Lib.hid (by
            intro W h4 h5
            rw [← hq'] at h4
            have h6 := pchoose_any (x := ⟨T.q j, (r + 1) * T.q j % T.G, O j, K j, nx⟩) (List.getElem?_set_self hl3) HP.out (HOL.out j) (HKL.out j) hkp hnk W h4 h5 HGE.out (by rw [← HCH.out, hy1, hym]) (fun i hi => by rw [← HCH.out]; exact hy3 i hi)
            rw [← HCH.out, List.set_set] at h6
            exact h6)
          obtain ⟨x2, hx2⟩ : ∃ x, (⟨T.q j, (r + 1) * T.q j % T.G, O j, K j, k + 1⟩ : Trn) = x := ⟨_, rfl⟩
          rw [hx2] at HCS HN
          have hap : T.ch j k < p := by rw [← HTM.out]; exact HOK.out.lt j hjn k hkm
          obtain ⟨a, ha⟩ : ∃ a, T.ch j k = a := ⟨_, rfl⟩
          rw [ha] at HCS hap hset hy1
          obtain ⟨S, hS⟩ : ∃ S, T.tab (r * T.n + j) = S := ⟨_, rfl⟩
          have HSL0 := Lib.hid HL.out.slots
          rw [hS] at HCS hset hy1 hfree HSL0 ⊢
          have HSE := Lib.hid hset
          have HSY := Lib.hid hy1
          have HAQ : Hid (a = a * eZ.k + 0) := Lib.hid (by show a = a * 1 + 0; omega)
          have k3 : (a : Int) < (p : Int) := by omega
          have k5 : (0 : Int) ≤ (a : Int) := by omega
          obtain ⟨f, hf⟩ : ∃ f, freeN (T.tab (r * T.n + j + 1)) = f := ⟨_, rfl⟩
          rw [hf] at hfree
          rw [hfree]
          have hf9 : f ≤ 65537 := by rw [hS] at hfm; omega
          have HF2 := Lib.hid hf
          clear hx hxm hxt hqG hcG hpt hfm hq' htk hpos hlt hjn hj hf hkm hy1 hy2 hy3 hset hfree hkp hym hnk hl3 hx2 ha hap hS
          rcases Nat.eq_zero_or_pos f with hf0 | hf0
          · subst hf0
            have HOU := Lib.hid (T.full_out HOK.out HF2.out)
            go_wp2_with (first
              | (go_at_call 42; refine (HPY.out wr HL.out.turns).mono ?_; rintro e w3 ⟨rfl, ho3, hg3⟩; have HO3 := Lib.hid ho3; have HG3 := Lib.hid hg3; have HS3 := Lib.hid (HSL0.out.kept hg3 (.inr fun e => HGE.out (by cases e; rfl))); clear ho3 hg3)
              | (go_at_call 43; refine (HCS.out w3 HO3.out HS3.out).mono ?_; rintro e w4 ⟨rfl, ho4, hg4⟩; have HO4 := Lib.hid ho4; have HG4 := Lib.hid (HL.out.gb.trans (HG3.out.trans hg4)); have HS4 := Lib.hid (HS3.out.kept hg4 (.inr fun e => HGE.out (by cases e; rfl))); clear ho4 hg4)
              | ((with_reducible show wpList _ _ _ (⟨none, .store 3 (.tmp 36) _, _, _, _, _⟩ :: _) _ _); refine wpList_storeG eZ rfl 3 (.tmp 36) _ rfl gs a 0 a HAQ.out (by rfl) (.int .i64 (j : Int)) (by rfl) _ p p w.heap.size HS4.out y (j : Int) HSY.out (by decide) rfl size1_int rfl rfl ?_; intro w5 ho5 hg5; rw [← HSE.out] at ho5; have HS5 := Lib.hid ho5; have HO5 := Lib.hid (HO4.out.kept hg5 (.inr fun e => HGE.out (by cases e; rfl))); have HG5 := Lib.hid (HG4.out.andThen hg5 (fun z hz => by cases hz; exact .inl HGS.out)); clear ho5 hg5))
            (try rw [Exit.noGoto_ret])
            go_ret
            refine ⟨_, rfl, ?_, HG5.out⟩
            rw [← HOU.out]
            exact HS5.out
          · have k7 : (((f + 1 : Nat) : Int) - 1 == 0) = false := beq_eq_false_iff_ne.2 (by omega)
            have k8 : ((f + 1 : Nat) : Int) - 1 = (f : Int) := by omega
            have k9 : ((f : Int) == 0) = false := beq_eq_false_iff_ne.2 (by omega)
            have HFP := Lib.hid hf0
            clear hf0
            go_wp2_with (first
              | (go_at_call 42; refine (HPY.out wr HL.out.turns).mono ?_; rintro e w3 ⟨rfl, ho3, hg3⟩; have HO3 := Lib.hid ho3; have HG3 := Lib.hid hg3; have HS3 := Lib.hid (HSL0.out.kept hg3 (.inr fun e => HGE.out (by cases e; rfl))); clear ho3 hg3)
              | (go_at_call 43; refine (HCS.out w3 HO3.out HS3.out).mono ?_; rintro e w4 ⟨rfl, ho4, hg4⟩; have HO4 := Lib.hid ho4; have HG4 := Lib.hid (HL.out.gb.trans (HG3.out.trans hg4)); have HS4 := Lib.hid (HS3.out.kept hg4 (.inr fun e => HGE.out (by cases e; rfl))); clear ho4 hg4)
              | ((with_reducible show wpList _ _ _ (⟨none, .store 3 (.tmp 36) _, _, _, _, _⟩ :: _) _ _); refine wpList_storeG eZ rfl 3 (.tmp 36) _ rfl gs a 0 a HAQ.out (by rfl) (.int .i64 (j : Int)) (by rfl) _ p p w.heap.size HS4.out y (j : Int) HSY.out (by decide) rfl size1_int rfl rfl ?_; intro w5 ho5 hg5; rw [← HSE.out] at ho5; have HS5 := Lib.hid ho5; have HO5 := Lib.hid (HO4.out.kept hg5 (.inr fun e => HGE.out (by cases e; rfl))); have HG5 := Lib.hid (HG4.out.andThen hg5 (fun z hz => by cases hz; exact .inl HGS.out)); clear ho5 hg5))
            go_roundw
            case rel => exact ⟨j + 1, _, HLT.out, (by have := HLT.out; go_num), by rw [← Nat.add_assoc, HF2.out], by rw [← Nat.add_assoc, HF2.out]; exact HFP.out, ⟨by rw [← Nat.add_assoc]; exact HS5.out, HO5.out, HN.out, HG5.out⟩⟩
            case measure =>
              have := HLT.out
              simp [intOf]
              omega
      · obtain rfl : j = n := by omega
        have h1 : ¬ (j : Int) < (j : Int) := by omega
        have hfr := T.free_round HOK.out (r := r) (by rw [HF.out]; exact HF0.out)
        rw [HF.out, show r * T.n + T.n = r * T.n + j from congrArg (fun z => r * T.n + z) HTN.out] at hfr
        have hrj : (r + 1) * T.n = r * T.n + j := by rw [Nat.add_mul, Nat.one_mul]; exact congrArg (fun z => r * T.n + z) HTN.out
        have HRJ := Lib.hid hrj
        have HFR := Lib.hid hfr
        clear hlt hj hpos hfr hrj
        go_wp2_with fail
        go_roundw
        case rel => exact ⟨r + 1, ts3, by rw [HRJ.out], by rw [HRJ.out]; exact HPO.out, by rw [HRJ.out]; exact HL.out⟩
        case measure =>
          have h9 := HFR.out
          simp [intOf]
          exact h9
end Go.Proofs.Ytmngagcekhlppaa
