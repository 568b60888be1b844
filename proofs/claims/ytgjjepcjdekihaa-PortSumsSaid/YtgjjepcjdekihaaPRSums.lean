/-
  The document's Sum, Right, Fill.
-/
import Derived.Test.YtgjjepcjdekihaaPFill
import Derived.Test.YtgjjepcjdekihaaPRRead
namespace Go.Proofs.Ytgjjepcjdekihaa
open Go.RowKit Go.Lib

/-- An address out of its box, under a name. -/
theorem wpList_loadC {w : World} {ops : Array Oper} {rest : List Oper} {op : Oper} {a : Act} {Q : Exit → Act → World → Prop} (x : Operand) (ho : op.op = .load 35 x) (hw : Region.wanted op (yielded ops a.tmps) = true)
    (g : Nat) (hx : a.eval x = .pointer (some ⟨g, 0, none⟩)) (s : Bool) (bs : List UInt8) (h : bs.length = 16) (hb : w.rangeAt g 0 (addrL s bs)) (C : Array Value) (hC : addrC s bs = C)
    (hk : wpList Try.prog ops Q rest (a.put op.dst (.agg C)) w) : wpList Try.prog ops Q (op :: rest) a w := by
  subst hC
  exact wpList_loadA x ho hw g hx s bs h hb hk
/-- An append at a step of a region that draws. -/
theorem step_append8 {w : World} {ops : Array Oper} {o : Oper} {a : Act} {K : Act → World → Prop} {Q : Exit → Act → World → Prop} {E : Prop} (hgd : o.guard = none) (s x : Operand)
    (ho : o.op = .call { callee := .builtin .append, args := #[s, x], argTypes := #[22, 22] })
    (base : Nat) (v : Value) (xs : List UInt8) (hs : a.eval s = v) (hown : Own8 w base v xs) (B : Nat) (A : Option Addr) (m c : Nat) (ys : List UInt8) (hx : a.eval x = .slice A m c) (hr : Rd w B A m ys)
    (hlen : xs.length + m ≤ 2000000000) (hbase : base ≤ w.heap.size)
    (h : ∀ v' w', Own8 w' base v' (xs ++ ys) → w.grownBy w' v.ownBlock → K (a.put o.dst v') w') :
    if Region.wanted o (yielded ops a.tmps) = true then Oper.wp Try.prog o a w K Q else E := by
  have hw : Region.wanted o (yielded ops a.tmps) = true := by simp [Region.wanted, hgd]
  rw [if_pos hw]
  obtain ⟨v', w', hrun, h2, h3, h4⟩ := run_append8 w o.type base v xs hown B A m c ys hr hlen hbase
  unfold Oper.wp execOp
  simp only [ho, resolve, invoke, builtin, Sem.run_bind, Sem.run_pure, Result.andThen_ok, List.map_toArray, List.map_cons, List.map_nil, hs, hx, hrun]
  exact h v' w' h2 h3

set_option maxRecDepth 100000 in
set_option maxHeartbeats 4000000 in
theorem rsumS_T (six : Bool) (a b : List UInt8) (ha : a.length = 16) (hb : b.length = 16) {A : Option Addr} {len cap : Nat} {xs : List UInt8} (hlen : len ≤ 60000) (hcap : len ≤ cap) (w : World) (hI : Rd w w.heap.size A len xs) (h0 : faultB false xs = 0) :
    Calls Try.prog 27 #[.agg (addrC six a), .agg (addrC six b), .int .i64 6, .slice A len cap] w fun e w' => e = .returned (.int .i64 (ckS six a b false xs : Nat)) ∧ Below w.heap.size w w' := by
  have HL := Lib.hid hI.len
  obtain ⟨t1, t2, t3⟩ := tot_ok h0
  rw [hI.len] at t3
  obtain ⟨k0, k1, hb0, hz⟩ := boxes w six a b
  obtain ⟨Z, hZ⟩ : ∃ Z : World, (w.alloc (.cells (addrC six a) 35)).alloc (.cells (addrC six b) 35) = Z := ⟨_, rfl⟩
  rw [hZ] at k0 k1 hb0 hz
  have HR := Lib.hid (rread_any (A := A) (cap := cap) (xs := xs) 6 Z ((hI.below hb0).more hb0.size))
  have hf0 : faultP 6 xs = 0 := h0
  have hpt : (rdP 6 xs).t = totN false xs := rdP_tot (u := false) h0
  rw [hf0] at HR
  have hP := pseudo_even six a b ha hb (prN false) (totN false xs)
  have HT := Lib.hid (fun W (hB : Below w.heap.size w W) => (hI.below hB).take t3)
  have hck : ckOf (pseudoOf six a b (prN false) (totN false xs) ++ xs.take (totN false xs)) = ckS six a b false xs := rfl
  have HCK := Lib.hid hck
  clear hck
  generalize ckS six a b false xs = c at *
  obtain ⟨p, hp⟩ : ∃ p, rdP 6 xs = p := ⟨_, rfl⟩
  rw [hp] at HR hpt
  have HPT := Lib.hid hpt
  generalize totN false xs = T at *
  have HPS := Lib.hid (fun W => rpseudo_any six a b ha hb (prN false) T (prN_lt _) (by omega) _ rfl W)
  rw [show ((prN false : Nat) : Int) = 6 from rfl] at HPS
  obtain ⟨X, hX⟩ : ∃ X, pseudoOf six a b (prN false) T = X := ⟨_, rfl⟩
  rw [hX] at hP HPS HCK
  obtain ⟨n, hn⟩ : ∃ n, X.length = n := ⟨_, rfl⟩
  rw [hn] at hP
  have HN := Lib.hid hn
  have hn0 : 0 < n := hP.2.1
  have hn40 : n ≤ 40 := hP.2.2
  have HCUT := Lib.hid (fun W => run_upto8 A len cap T (T : Int) rfl (by omega) W)
  have HZ := Lib.hid hZ
  have K0 := Lib.hid k0
  have K1 := Lib.hid k1
  have HB0 := Lib.hid hb0
  have HG := Lib.hid hz
  have HI := Lib.hid hI
  rw [← addrC_eq, ← addrC_eq] at HPS
  obtain ⟨C0, hC0⟩ : ∃ C, addrC six a = C := ⟨_, rfl⟩
  obtain ⟨C1, hC1⟩ : ∃ C, addrC six b = C := ⟨_, rfl⟩
  rw [hC0, hC1] at HZ HPS
  rw [hC0, hC1]
  have HC0 := Lib.hid hC0
  have HC1 := Lib.hid hC1
  clear hX hn hP hZ k0 k1 hb0 hz hp h0 hf0 hpt hI hC0 hC1
  go_enter Try.func27, Try.ntmps27
  go_wp2_with fail
  rw [HZ.out]
  refine HR.out.mono ?_
  rintro e w1 ⟨rfl, hb1⟩
  have HB1 := Lib.hid (HB0.out.trans (hb1.mono HB0.out.size))
  have g0 : w.heap.size < Z.heap.size := Nat.lt_of_succ_lt HG.out
  have K0b := Lib.hid (range_keep K0.out g0 hb1)
  have K1b := Lib.hid (range_keep K1.out HG.out hb1)
  have z1 := hb1.size
  clear hb1
  go_wp2_with ((with_reducible show wpList _ _ _ _ _ _); refine wpList_storeNew rfl _ _ rfl (by rfl) p (by rfl) ?_; intro w2 hp2 hb2 hz2; clear hz2; have HB2 := Lib.hid (HB1.out.trans (hb2.mono HB1.out.size)); have HP2 := Lib.hid hp2; have K0c := Lib.hid (range_keep K0b.out (Nat.lt_of_lt_of_le g0 z1) hb2); have K1c := Lib.hid (range_keep K1b.out (Nat.lt_of_lt_of_le HG.out z1) hb2); have z2 := hb2.size; have HG2 := Lib.hid hp2.lt; clear hp2 hb2)
  have HC4 := Lib.hid (fun W (hW : Below w2.heap.size w2 W) => (HP2.out.below HG2.out hW).cell (i := 4) (v := .int .i64 (T : Int)) (by rw [← HPT.out]; rfl))
  have gg := HG.out
  refine wp_region_held_drew (S := fun W => Below w2.heap.size w2 W) (by kernel_rfl) ((Below.refl _ _).drew) (fun hHeld => ?_)
  refine wpAnyH_take (i := 0) (oi := ⟨some 18, _, _, _, _, _⟩) (v := .agg C0) rfl (by kernel_rfl) (by kernel_rfl) (by kernel_rfl) (fun _ _ _ h => h) (by rw [← HC0.out]; exact yields_loadA (by rfl) _ rfl w.heap.size (by rfl) six a ha (fun W hW => range_keep K0c.out (by omega) hW)) hHeld ?_
  simp only [Act.put, List.setIfInBounds_toArray, List.set_cons_zero, List.set_cons_succ]
  refine wpAnyH_take (i := 1) (oi := ⟨some 19, _, _, _, _, _⟩) (v := .agg C1) rfl (by kernel_rfl) (by kernel_rfl) (by kernel_rfl) (fun _ _ _ h => h) (by rw [← HC1.out]; exact yields_loadA (by rfl) _ rfl (w.heap.size + 1) (by rfl) six b hb (fun W hW => range_keep K1c.out (by omega) hW)) hHeld ?_
  simp only [Act.put, List.setIfInBounds_toArray, List.set_cons_zero, List.set_cons_succ]
  refine wpAnyH_take (i := 2) (oi := ⟨some 20, _, _, _, _, _⟩) (v := .int .i64 6) rfl (by kernel_rfl) (by kernel_rfl) (by kernel_rfl) (fun _ _ _ h => h) (Or.inl ⟨by rfl, fun _ _ => by go_simp⟩) hHeld ?_
  simp only [Act.put, List.setIfInBounds_toArray, List.set_cons_zero, List.set_cons_succ]
  refine wpAnyH_take (i := 3) (oi := ⟨some 21, _, _, _, _, _⟩) (v := .pointer (some ⟨w1.heap.size, 4, none⟩)) rfl (by kernel_rfl) (by kernel_rfl) (by kernel_rfl) (fun _ _ _ h => h) (Or.inl ⟨by rfl, fun _ _ => by go_simp⟩) hHeld ?_
  simp only [Act.put, List.setIfInBounds_toArray, List.set_cons_zero, List.set_cons_succ]
  refine wpAnyH_take (i := 4) (oi := ⟨some 22, _, _, _, _, _⟩) (v := .int .i64 (T : Int)) rfl (by kernel_rfl) (by kernel_rfl) (by kernel_rfl) (fun _ _ _ h => h) (Or.inl ⟨by rfl, fun W hW => by have hc := HC4.out W hW; go_simp⟩) hHeld ?_
  simp only [Act.put, List.setIfInBounds_toArray, List.set_cons_zero, List.set_cons_succ]
  refine wpAnyH_take (i := 6) (oi := ⟨some 24, _, _, _, _, _⟩) (v := .slice A len cap) rfl (by kernel_rfl) (by kernel_rfl) (by kernel_rfl) (fun _ _ _ h => h) (Or.inl ⟨by rfl, fun _ _ => by go_simp⟩) hHeld ?_
  simp only [Act.put, List.setIfInBounds_toArray, List.set_cons_zero, List.set_cons_succ]
  refine wpAnyH_take (i := 7) (oi := ⟨some 25, _, _, _, _, _⟩) (v := .pointer (some ⟨w1.heap.size, 4, none⟩)) rfl (by kernel_rfl) (by kernel_rfl) (by kernel_rfl) (fun _ _ _ h => h) (Or.inl ⟨by rfl, fun _ _ => by go_simp⟩) hHeld ?_
  simp only [Act.put, List.setIfInBounds_toArray, List.set_cons_zero, List.set_cons_succ]
  refine wpAnyH_take (i := 8) (oi := ⟨some 26, _, _, _, _, _⟩) (v := .int .i64 (T : Int)) rfl (by kernel_rfl) (by kernel_rfl) (by kernel_rfl) (fun _ _ _ h => h) (Or.inl ⟨by rfl, fun W hW => by have hc := HC4.out W hW; go_simp⟩) hHeld ?_
  simp only [Act.put, List.setIfInBounds_toArray, List.set_cons_zero, List.set_cons_succ]
  refine wpAnyH_take (i := 9) (oi := ⟨some 27, _, _, _, _, _⟩) (v := .slice A T cap) rfl (by kernel_rfl) (by kernel_rfl) (by kernel_rfl) (fun _ _ _ h => h) (Or.inl ⟨by rfl, fun W _ => by have hs := HCUT.out W; go_simp⟩) hHeld ?_
  simp only [Act.put, List.setIfInBounds_toArray, List.set_cons_zero, List.set_cons_succ]
  refine wpAnyH_ready (rs := [5]) (by kernel_rfl) (by simp) (AllReadyH.cons (o := ⟨some 23, _, _, _, _, _⟩) rfl (fun K hK => ?_) AllReadyH.nil)
  go_simp
  refine (HPS.out _).mono ?_
  rintro e w5 ⟨v5, rfl, ho5, hb5⟩
  have HB5 := Lib.hid (hHeld.trans (hb5.mono hHeld.size))
  have HO5 := Lib.hid (ho5.base_le hHeld.size)
  refine hK.out _ _ (HB5.out) (fun hHeld => ?_)
  clear hK K ho5 hb5
  refine wpAnyH_ready (rs := [10]) (by kernel_rfl) (by simp) (AllReadyH.cons (o := ⟨some 28, _, _, _, _, _⟩) rfl (fun K hK => ?_) AllReadyH.nil)
  refine step_append8 rfl (.tmp 23) (.tmp 27) rfl w2.heap.size v5 X (by rfl) HO5.out _ A T cap _ (by rfl) ((HT.out _ (HB2.out.trans (HB5.out.mono HB2.out.size))).more (Nat.le_trans HB2.out.size HB5.out.size)) (by rw [HN.out]; omega) HB5.out.size ?_
  intro v6 w6 ho6 hg6
  have HB6 := Lib.hid (HB5.out.grown hg6 HB5.out.size HO5.out.lt)
  have HO6 := Lib.hid ho6
  refine hK.out _ _ (HB6.out) (fun hHeld => ?_)
  clear hK K ho6 hg6
  obtain ⟨A6, m6, c6, rfl, hm6, hnc6, hcm6, hrd6⟩ := HO6.out.sl
  refine wpAnyH_take (i := 11) (oi := ⟨some 11, _, _, _, _, _⟩) (v := .slice A6 m6 c6) rfl (by kernel_rfl) (by kernel_rfl) (by kernel_rfl) (fun _ _ _ h => h) (Or.inl ⟨by rfl, fun _ _ => by go_simp⟩) hHeld ?_
  simp only [Act.put, List.setIfInBounds_toArray, List.set_cons_zero, List.set_cons_succ]
  refine wpAnyH_done (by kernel_rfl) ?_ _
  have hml : m6 ≤ 100000 := by rw [hm6, List.length_append, HN.out, List.length_take]; omega
  have HS := Lib.hid (rsum_any A6 m6 c6 _ hml w6 hrd6 (Nat.le_refl _))
  rw [HCK.out] at HS
  clear hm6 hrd6 hml
  go_wp2_with fail
  refine HS.out.mono ?_
  rintro e w7 ⟨rfl, hb7⟩
  have HB7 := Lib.hid (HB2.out.trans ((HB6.out.trans (hb7.mono HB6.out.size)).mono HB2.out.size))
  clear hb7
  go_wp2_with fail
  go_ret
  exact ⟨rfl, HB7.out⟩

set_option maxRecDepth 100000 in
set_option maxHeartbeats 4000000 in
theorem rsumS_U (six : Bool) (a b : List UInt8) (ha : a.length = 16) (hb : b.length = 16) {A : Option Addr} {len cap : Nat} {xs : List UInt8} (hlen : len ≤ 60000) (hcap : len ≤ cap) (w : World) (hI : Rd w w.heap.size A len xs) (h0 : faultB true xs = 0) :
    Calls Try.prog 27 #[.agg (addrC six a), .agg (addrC six b), .int .i64 17, .slice A len cap] w fun e w' => e = .returned (.int .i64 (ckS six a b true xs : Nat)) ∧ Below w.heap.size w w' := by
  have HL := Lib.hid hI.len
  obtain ⟨t1, t2, t3⟩ := tot_ok h0
  rw [hI.len] at t3
  obtain ⟨k0, k1, hb0, hz⟩ := boxes w six a b
  obtain ⟨Z, hZ⟩ : ∃ Z : World, (w.alloc (.cells (addrC six a) 35)).alloc (.cells (addrC six b) 35) = Z := ⟨_, rfl⟩
  rw [hZ] at k0 k1 hb0 hz
  have HR := Lib.hid (rread_any (A := A) (cap := cap) (xs := xs) 17 Z ((hI.below hb0).more hb0.size))
  have hf0 : faultP 17 xs = 0 := h0
  have hpt : (rdP 17 xs).t = totN true xs := rdP_tot (u := true) h0
  rw [hf0] at HR
  have hP := pseudo_even six a b ha hb (prN true) (totN true xs)
  have HT := Lib.hid (fun W (hB : Below w.heap.size w W) => (hI.below hB).take t3)
  have hck : ckOf (pseudoOf six a b (prN true) (totN true xs) ++ xs.take (totN true xs)) = ckS six a b true xs := rfl
  have HCK := Lib.hid hck
  clear hck
  generalize ckS six a b true xs = c at *
  obtain ⟨p, hp⟩ : ∃ p, rdP 17 xs = p := ⟨_, rfl⟩
  rw [hp] at HR hpt
  have HPT := Lib.hid hpt
  generalize totN true xs = T at *
  have HPS := Lib.hid (fun W => rpseudo_any six a b ha hb (prN true) T (prN_lt _) (by omega) _ rfl W)
  rw [show ((prN true : Nat) : Int) = 17 from rfl] at HPS
  obtain ⟨X, hX⟩ : ∃ X, pseudoOf six a b (prN true) T = X := ⟨_, rfl⟩
  rw [hX] at hP HPS HCK
  obtain ⟨n, hn⟩ : ∃ n, X.length = n := ⟨_, rfl⟩
  rw [hn] at hP
  have HN := Lib.hid hn
  have hn0 : 0 < n := hP.2.1
  have hn40 : n ≤ 40 := hP.2.2
  have HCUT := Lib.hid (fun W => run_upto8 A len cap T (T : Int) rfl (by omega) W)
  have HZ := Lib.hid hZ
  have K0 := Lib.hid k0
  have K1 := Lib.hid k1
  have HB0 := Lib.hid hb0
  have HG := Lib.hid hz
  have HI := Lib.hid hI
  rw [← addrC_eq, ← addrC_eq] at HPS
  obtain ⟨C0, hC0⟩ : ∃ C, addrC six a = C := ⟨_, rfl⟩
  obtain ⟨C1, hC1⟩ : ∃ C, addrC six b = C := ⟨_, rfl⟩
  rw [hC0, hC1] at HZ HPS
  rw [hC0, hC1]
  have HC0 := Lib.hid hC0
  have HC1 := Lib.hid hC1
  clear hX hn hP hZ k0 k1 hb0 hz hp h0 hf0 hpt hI hC0 hC1
  go_enter Try.func27, Try.ntmps27
  go_wp2_with fail
  rw [HZ.out]
  refine HR.out.mono ?_
  rintro e w1 ⟨rfl, hb1⟩
  have HB1 := Lib.hid (HB0.out.trans (hb1.mono HB0.out.size))
  have g0 : w.heap.size < Z.heap.size := Nat.lt_of_succ_lt HG.out
  have K0b := Lib.hid (range_keep K0.out g0 hb1)
  have K1b := Lib.hid (range_keep K1.out HG.out hb1)
  have z1 := hb1.size
  clear hb1
  go_wp2_with ((with_reducible show wpList _ _ _ _ _ _); refine wpList_storeNew rfl _ _ rfl (by rfl) p (by rfl) ?_; intro w2 hp2 hb2 hz2; clear hz2; have HB2 := Lib.hid (HB1.out.trans (hb2.mono HB1.out.size)); have HP2 := Lib.hid hp2; have K0c := Lib.hid (range_keep K0b.out (Nat.lt_of_lt_of_le g0 z1) hb2); have K1c := Lib.hid (range_keep K1b.out (Nat.lt_of_lt_of_le HG.out z1) hb2); have z2 := hb2.size; have HG2 := Lib.hid hp2.lt; clear hp2 hb2)
  have HC4 := Lib.hid (fun W (hW : Below w2.heap.size w2 W) => (HP2.out.below HG2.out hW).cell (i := 4) (v := .int .i64 (T : Int)) (by rw [← HPT.out]; rfl))
  have gg := HG.out
  refine wp_region_held_drew (S := fun W => Below w2.heap.size w2 W) (by kernel_rfl) ((Below.refl _ _).drew) (fun hHeld => ?_)
  refine wpAnyH_take (i := 0) (oi := ⟨some 18, _, _, _, _, _⟩) (v := .agg C0) rfl (by kernel_rfl) (by kernel_rfl) (by kernel_rfl) (fun _ _ _ h => h) (by rw [← HC0.out]; exact yields_loadA (by rfl) _ rfl w.heap.size (by rfl) six a ha (fun W hW => range_keep K0c.out (by omega) hW)) hHeld ?_
  simp only [Act.put, List.setIfInBounds_toArray, List.set_cons_zero, List.set_cons_succ]
  refine wpAnyH_take (i := 1) (oi := ⟨some 19, _, _, _, _, _⟩) (v := .agg C1) rfl (by kernel_rfl) (by kernel_rfl) (by kernel_rfl) (fun _ _ _ h => h) (by rw [← HC1.out]; exact yields_loadA (by rfl) _ rfl (w.heap.size + 1) (by rfl) six b hb (fun W hW => range_keep K1c.out (by omega) hW)) hHeld ?_
  simp only [Act.put, List.setIfInBounds_toArray, List.set_cons_zero, List.set_cons_succ]
  refine wpAnyH_take (i := 2) (oi := ⟨some 20, _, _, _, _, _⟩) (v := .int .i64 17) rfl (by kernel_rfl) (by kernel_rfl) (by kernel_rfl) (fun _ _ _ h => h) (Or.inl ⟨by rfl, fun _ _ => by go_simp⟩) hHeld ?_
  simp only [Act.put, List.setIfInBounds_toArray, List.set_cons_zero, List.set_cons_succ]
  refine wpAnyH_take (i := 3) (oi := ⟨some 21, _, _, _, _, _⟩) (v := .pointer (some ⟨w1.heap.size, 4, none⟩)) rfl (by kernel_rfl) (by kernel_rfl) (by kernel_rfl) (fun _ _ _ h => h) (Or.inl ⟨by rfl, fun _ _ => by go_simp⟩) hHeld ?_
  simp only [Act.put, List.setIfInBounds_toArray, List.set_cons_zero, List.set_cons_succ]
  refine wpAnyH_take (i := 4) (oi := ⟨some 22, _, _, _, _, _⟩) (v := .int .i64 (T : Int)) rfl (by kernel_rfl) (by kernel_rfl) (by kernel_rfl) (fun _ _ _ h => h) (Or.inl ⟨by rfl, fun W hW => by have hc := HC4.out W hW; go_simp⟩) hHeld ?_
  simp only [Act.put, List.setIfInBounds_toArray, List.set_cons_zero, List.set_cons_succ]
  refine wpAnyH_take (i := 6) (oi := ⟨some 24, _, _, _, _, _⟩) (v := .slice A len cap) rfl (by kernel_rfl) (by kernel_rfl) (by kernel_rfl) (fun _ _ _ h => h) (Or.inl ⟨by rfl, fun _ _ => by go_simp⟩) hHeld ?_
  simp only [Act.put, List.setIfInBounds_toArray, List.set_cons_zero, List.set_cons_succ]
  refine wpAnyH_take (i := 7) (oi := ⟨some 25, _, _, _, _, _⟩) (v := .pointer (some ⟨w1.heap.size, 4, none⟩)) rfl (by kernel_rfl) (by kernel_rfl) (by kernel_rfl) (fun _ _ _ h => h) (Or.inl ⟨by rfl, fun _ _ => by go_simp⟩) hHeld ?_
  simp only [Act.put, List.setIfInBounds_toArray, List.set_cons_zero, List.set_cons_succ]
  refine wpAnyH_take (i := 8) (oi := ⟨some 26, _, _, _, _, _⟩) (v := .int .i64 (T : Int)) rfl (by kernel_rfl) (by kernel_rfl) (by kernel_rfl) (fun _ _ _ h => h) (Or.inl ⟨by rfl, fun W hW => by have hc := HC4.out W hW; go_simp⟩) hHeld ?_
  simp only [Act.put, List.setIfInBounds_toArray, List.set_cons_zero, List.set_cons_succ]
  refine wpAnyH_take (i := 9) (oi := ⟨some 27, _, _, _, _, _⟩) (v := .slice A T cap) rfl (by kernel_rfl) (by kernel_rfl) (by kernel_rfl) (fun _ _ _ h => h) (Or.inl ⟨by rfl, fun W _ => by have hs := HCUT.out W; go_simp⟩) hHeld ?_
  simp only [Act.put, List.setIfInBounds_toArray, List.set_cons_zero, List.set_cons_succ]
  refine wpAnyH_ready (rs := [5]) (by kernel_rfl) (by simp) (AllReadyH.cons (o := ⟨some 23, _, _, _, _, _⟩) rfl (fun K hK => ?_) AllReadyH.nil)
  go_simp
  refine (HPS.out _).mono ?_
  rintro e w5 ⟨v5, rfl, ho5, hb5⟩
  have HB5 := Lib.hid (hHeld.trans (hb5.mono hHeld.size))
  have HO5 := Lib.hid (ho5.base_le hHeld.size)
  refine hK.out _ _ (HB5.out) (fun hHeld => ?_)
  clear hK K ho5 hb5
  refine wpAnyH_ready (rs := [10]) (by kernel_rfl) (by simp) (AllReadyH.cons (o := ⟨some 28, _, _, _, _, _⟩) rfl (fun K hK => ?_) AllReadyH.nil)
  refine step_append8 rfl (.tmp 23) (.tmp 27) rfl w2.heap.size v5 X (by rfl) HO5.out _ A T cap _ (by rfl) ((HT.out _ (HB2.out.trans (HB5.out.mono HB2.out.size))).more (Nat.le_trans HB2.out.size HB5.out.size)) (by rw [HN.out]; omega) HB5.out.size ?_
  intro v6 w6 ho6 hg6
  have HB6 := Lib.hid (HB5.out.grown hg6 HB5.out.size HO5.out.lt)
  have HO6 := Lib.hid ho6
  refine hK.out _ _ (HB6.out) (fun hHeld => ?_)
  clear hK K ho6 hg6
  obtain ⟨A6, m6, c6, rfl, hm6, hnc6, hcm6, hrd6⟩ := HO6.out.sl
  refine wpAnyH_take (i := 11) (oi := ⟨some 11, _, _, _, _, _⟩) (v := .slice A6 m6 c6) rfl (by kernel_rfl) (by kernel_rfl) (by kernel_rfl) (fun _ _ _ h => h) (Or.inl ⟨by rfl, fun _ _ => by go_simp⟩) hHeld ?_
  simp only [Act.put, List.setIfInBounds_toArray, List.set_cons_zero, List.set_cons_succ]
  refine wpAnyH_done (by kernel_rfl) ?_ _
  have hml : m6 ≤ 100000 := by rw [hm6, List.length_append, HN.out, List.length_take]; omega
  have HS := Lib.hid (rsum_any A6 m6 c6 _ hml w6 hrd6 (Nat.le_refl _))
  rw [HCK.out] at HS
  clear hm6 hrd6 hml
  go_wp2_with fail
  refine HS.out.mono ?_
  rintro e w7 ⟨rfl, hb7⟩
  have HB7 := Lib.hid (HB2.out.trans ((HB6.out.trans (hb7.mono HB6.out.size)).mono HB2.out.size))
  clear hb7
  go_wp2_with fail
  go_ret
  exact ⟨rfl, HB7.out⟩

/-- The document's Sum. -/
theorem rsumS_any (six : Bool) (a b : List UInt8) (ha : a.length = 16) (hb : b.length = 16) {A : Option Addr} {len cap : Nat} {xs : List UInt8} (hlen : len ≤ 60000) (hcap : len ≤ cap) (w : World) (hI : Rd w w.heap.size A len xs) (u : Bool) (h0 : faultB u xs = 0) :
    Calls Try.prog 27 #[.agg (addrC six a), .agg (addrC six b), .int .i64 (prN u : Nat), .slice A len cap] w fun e w' => e = .returned (.int .i64 (ckS six a b u xs : Nat)) ∧ Below w.heap.size w w' := by
  cases u
  · exact rsumS_T six a b ha hb hlen hcap w hI h0
  · exact rsumS_U six a b ha hb hlen hcap w hI h0

set_option maxRecDepth 100000 in
set_option maxHeartbeats 2000000 in
theorem rright_T (six : Bool) (a b : List UInt8) (ha : a.length = 16) (hb : b.length = 16) {A : Option Addr} {len cap : Nat} {xs : List UInt8} (hlen : len ≤ 60000) (hcap : len ≤ cap) (w : World) (hI : Rd w w.heap.size A len xs) (h0 : faultB false xs = 0) :
    Calls Try.prog 17 #[.agg (addrC six a), .agg (addrC six b), .int .i64 6, .slice A len cap] w fun e w' => e = .returned (.bool (rightS six a b false xs)) ∧ Below w.heap.size w w' := by
  have hL := hI.len
  have HSUM := Lib.hid (fun W (hB : Below w.heap.size w W) => rsumS_T six a b ha hb hlen hcap W ((hI.below hB).more hB.size) h0)
  have e : rightS six a b false xs = decide (ckS six a b false xs = 0) := by unfold rightS; rw [if_neg (fun h => by cases h.1)]
  rw [e]
  clear e
  have hcl := ckS_le six a b false xs
  generalize ckS six a b false xs = c at *
  obtain ⟨rr, hrr⟩ : ∃ rr, decide (c = 0) = rr := ⟨_, rfl⟩
  rw [hrr]
  have HRR := Lib.hid hrr
  clear hrr
  obtain ⟨k0, k1, hb0, hz⟩ := boxes w six a b
  obtain ⟨Z, hZ⟩ : ∃ Z : World, (w.alloc (.cells (addrC six a) 35)).alloc (.cells (addrC six b) 35) = Z := ⟨_, rfl⟩
  rw [hZ] at k0 k1 hb0 hz
  have HZ := Lib.hid hZ
  have K0 := Lib.hid k0
  have K1 := Lib.hid k1
  have HB0 := Lib.hid hb0
  have HG := Lib.hid hz
  obtain ⟨C0, hC0⟩ : ∃ C, addrC six a = C := ⟨_, rfl⟩
  obtain ⟨C1, hC1⟩ : ∃ C, addrC six b = C := ⟨_, rfl⟩
  rw [hC0, hC1] at HZ HSUM
  rw [hC0, hC1]
  have HC0 := Lib.hid hC0
  have HC1 := Lib.hid hC1
  clear hZ k0 k1 hb0 hz h0 hI hC0 hC1
  go_enter Try.func17, Try.ntmps17
  go_wp2_with (first
    | ((with_reducible show wpList _ _ _ _ _ _); rw [HZ.out]; refine wpList_loadC (op := ⟨some 19, _, _, _, _, _⟩) _ rfl (by rfl) w.heap.size (by rfl) six a ha K0.out C0 HC0.out ?_)
    | ((with_reducible show wpList _ _ _ _ _ _); refine wpList_loadC (op := ⟨some 20, _, _, _, _, _⟩) _ rfl (by rfl) (w.heap.size + 1) (by rfl) six b hb K1.out C1 HC1.out ?_))
  refine (HSUM.out _ HB0.out).mono ?_
  rintro e w7 ⟨rfl, hb7⟩
  have HB7 := Lib.hid (HB0.out.trans (hb7.mono HB0.out.size))
  clear hb7
  by_cases hc0 : c = 0
  · have hrr : rr = true := HRR.out.symm.trans (decide_eq_true hc0)
    subst hc0 hrr
    go_wp2_with fail
    go_ret
    exact ⟨rfl, HB7.out⟩
  · have hrr : rr = false := HRR.out.symm.trans (decide_eq_false hc0)
    subst hrr
    have hr1 : ((c : Int) == 0) = false := beq_eq_false_iff_ne.2 (by omega)
    have hr2 : (c == 0) = false := beq_eq_false_iff_ne.2 hc0
    go_wp2_with fail
    go_ret
    exact ⟨rfl, HB7.out⟩

set_option maxRecDepth 100000 in
set_option maxHeartbeats 2000000 in
theorem rright_U0 (six : Bool) (a b : List UInt8) (ha : a.length = 16) (hb : b.length = 16) {A : Option Addr} {len cap : Nat} {xs : List UInt8} (hlen : len ≤ 60000) (hcap : len ≤ cap) (w : World) (hI : Rd w w.heap.size A len xs) (h0 : faultB true xs = 0) (hz6 : wat xs 6 = 0) :
    Calls Try.prog 17 #[.agg (addrC six a), .agg (addrC six b), .int .i64 17, .slice A len cap] w fun e w' => e = .returned (.bool (rightS six a b true xs)) ∧ Below w.heap.size w w' := by
  have hL := hI.len
  have HSUM := Lib.hid (fun W (hB : Below w.heap.size w W) => rsumS_U six a b ha hb hlen hcap W ((hI.below hB).more hB.size) h0)
  obtain ⟨t1, t2, t3⟩ := tot_ok h0
  have T6 := Lib.hid (fun W (hB : Below w.heap.size w W) => two_b (p := 6) (cap := cap) (by omega) (by omega) 6 rfl (hI.below hB))
  clear t1 t2 t3
  have e : rightS six a b true xs = !six := by unfold rightS; rw [if_pos ⟨rfl, hz6⟩]
  rw [e]
  clear e
  have hcl := ckS_le six a b true xs
  generalize ckS six a b true xs = c at *
  generalize wat xs 6 = q at *
  obtain ⟨k0, k1, hb0, hz⟩ := boxes w six a b
  obtain ⟨Z, hZ⟩ : ∃ Z : World, (w.alloc (.cells (addrC six a) 35)).alloc (.cells (addrC six b) 35) = Z := ⟨_, rfl⟩
  rw [hZ] at k0 k1 hb0 hz
  have HZ := Lib.hid hZ
  have K0 := Lib.hid k0
  have K1 := Lib.hid k1
  have HB0 := Lib.hid hb0
  have HG := Lib.hid hz
  obtain ⟨C0, hC0⟩ : ∃ C, addrC six a = C := ⟨_, rfl⟩
  obtain ⟨C1, hC1⟩ : ∃ C, addrC six b = C := ⟨_, rfl⟩
  rw [hC0, hC1] at HZ HSUM
  rw [hC0, hC1]
  have HC0 := Lib.hid hC0
  have HC1 := Lib.hid hC1
  clear hZ k0 k1 hb0 hz h0 hI hC0 hC1
  subst hz6
  go_enter Try.func17, Try.ntmps17
  go_wp2_with fail
  rw [HZ.out]
  refine (T6.out _ HB0.out).mono ?_
  rintro e w3 ⟨rfl, hb3⟩
  have HB3 := Lib.hid (HB0.out.trans (hb3.mono HB0.out.size))
  have K0d := Lib.hid (range_keep K0.out (Nat.lt_of_succ_lt HG.out) hb3)
  have K1d := Lib.hid (range_keep K1.out HG.out hb3)
  clear hb3
  have d0 := addr_six K0d.out
  cases six
  all_goals
    go_wp2_with fail
    go_ret
    exact ⟨rfl, HB3.out⟩

set_option maxRecDepth 100000 in
set_option maxHeartbeats 2000000 in
theorem rright_U (six : Bool) (a b : List UInt8) (ha : a.length = 16) (hb : b.length = 16) {A : Option Addr} {len cap : Nat} {xs : List UInt8} (hlen : len ≤ 60000) (hcap : len ≤ cap) (w : World) (hI : Rd w w.heap.size A len xs) (h0 : faultB true xs = 0) (hz6 : wat xs 6 ≠ 0) :
    Calls Try.prog 17 #[.agg (addrC six a), .agg (addrC six b), .int .i64 17, .slice A len cap] w fun e w' => e = .returned (.bool (rightS six a b true xs)) ∧ Below w.heap.size w w' := by
  have hL := hI.len
  have HSUM := Lib.hid (fun W (hB : Below w.heap.size w W) => rsumS_U six a b ha hb hlen hcap W ((hI.below hB).more hB.size) h0)
  obtain ⟨t1, t2, t3⟩ := tot_ok h0
  have T6 := Lib.hid (fun W (hB : Below w.heap.size w W) => two_b (p := 6) (cap := cap) (by omega) (by omega) 6 rfl (hI.below hB))
  clear t1 t2 t3
  have e : rightS six a b true xs = decide (ckS six a b true xs = 0) := by unfold rightS; rw [if_neg (fun h => hz6 h.2)]
  rw [e]
  clear e
  have hcl := ckS_le six a b true xs
  generalize ckS six a b true xs = c at *
  obtain ⟨rr, hrr⟩ : ∃ rr, decide (c = 0) = rr := ⟨_, rfl⟩
  rw [hrr]
  have HRR := Lib.hid hrr
  clear hrr
  generalize wat xs 6 = q at *
  obtain ⟨k0, k1, hb0, hz⟩ := boxes w six a b
  obtain ⟨Z, hZ⟩ : ∃ Z : World, (w.alloc (.cells (addrC six a) 35)).alloc (.cells (addrC six b) 35) = Z := ⟨_, rfl⟩
  rw [hZ] at k0 k1 hb0 hz
  have HZ := Lib.hid hZ
  have K0 := Lib.hid k0
  have K1 := Lib.hid k1
  have HB0 := Lib.hid hb0
  have HG := Lib.hid hz
  obtain ⟨C0, hC0⟩ : ∃ C, addrC six a = C := ⟨_, rfl⟩
  obtain ⟨C1, hC1⟩ : ∃ C, addrC six b = C := ⟨_, rfl⟩
  rw [hC0, hC1] at HZ HSUM
  rw [hC0, hC1]
  have HC0 := Lib.hid hC0
  have HC1 := Lib.hid hC1
  clear hZ k0 k1 hb0 hz h0 hI hC0 hC1
  have hq1 : ((q : Int) == 0) = false := beq_eq_false_iff_ne.2 (by omega)
  have hq2 : (q == 0) = false := beq_eq_false_iff_ne.2 hz6
  go_enter Try.func17, Try.ntmps17
  go_wp2_with fail
  rw [HZ.out]
  refine (T6.out _ HB0.out).mono ?_
  rintro e w3 ⟨rfl, hb3⟩
  have HB3 := Lib.hid (HB0.out.trans (hb3.mono HB0.out.size))
  have K0d := Lib.hid (range_keep K0.out (Nat.lt_of_succ_lt HG.out) hb3)
  have K1d := Lib.hid (range_keep K1.out HG.out hb3)
  clear hb3
  go_wp2_with (first
    | ((with_reducible show wpList _ _ _ _ _ _); refine wpList_loadC (op := ⟨some 19, _, _, _, _, _⟩) _ rfl (by rfl) w.heap.size (by rfl) six a ha K0d.out C0 HC0.out ?_)
    | ((with_reducible show wpList _ _ _ _ _ _); refine wpList_loadC (op := ⟨some 20, _, _, _, _, _⟩) _ rfl (by rfl) (w.heap.size + 1) (by rfl) six b hb K1d.out C1 HC1.out ?_))
  refine (HSUM.out _ HB3.out).mono ?_
  rintro e w7 ⟨rfl, hb7⟩
  have HB7 := Lib.hid (HB3.out.trans (hb7.mono HB3.out.size))
  clear hb7
  by_cases hc0 : c = 0
  · have hrr : rr = true := HRR.out.symm.trans (decide_eq_true hc0)
    subst hc0 hrr
    go_wp2_with fail
    go_ret
    exact ⟨rfl, HB7.out⟩
  · have hrr : rr = false := HRR.out.symm.trans (decide_eq_false hc0)
    subst hrr
    have hr1 : ((c : Int) == 0) = false := beq_eq_false_iff_ne.2 (by omega)
    have hr2 : (c == 0) = false := beq_eq_false_iff_ne.2 hc0
    go_wp2_with fail
    go_ret
    exact ⟨rfl, HB7.out⟩

/-- The document's Right. -/
theorem rright_any (six : Bool) (a b : List UInt8) (ha : a.length = 16) (hb : b.length = 16) {A : Option Addr} {len cap : Nat} {xs : List UInt8} (hlen : len ≤ 60000) (hcap : len ≤ cap) (w : World) (hI : Rd w w.heap.size A len xs) (u : Bool) (h0 : faultB u xs = 0) :
    Calls Try.prog 17 #[.agg (addrC six a), .agg (addrC six b), .int .i64 (prN u : Nat), .slice A len cap] w fun e w' => e = .returned (.bool (rightS six a b u xs)) ∧ Below w.heap.size w w' := by
  cases u
  · exact rright_T six a b ha hb hlen hcap w hI h0
  · by_cases hz : wat xs 6 = 0
    · exact rright_U0 six a b ha hb hlen hcap w hI h0 hz
    · exact rright_U six a b ha hb hlen hcap w hI h0 hz
end Go.Proofs.Ytgjjepcjdekihaa
