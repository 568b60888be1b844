/-
  The contract of six.passed.
-/
import Derived.Test.YthicbdjambmnpaaSHead
namespace Go.Proofs.Ythicbdjambmnpaa
open Go.RowKit Go.Lib

/-- A cell of a block known whole is stored anew: laws for the walk; the world behind it is a letter. -/
theorem wpList_storeI {w : World} {ops : Array Oper} {rest : List Oper} {op : Oper} {a : Act} {Q : Exit → Act → World → Prop} (hgd : op.guard = none) (x y : Operand) (ho : op.op = .store 3 x y)
    (g i : Nat) (hx : a.eval x = .pointer (some ⟨g, i, none⟩)) (n : Int) (hy : a.eval y = .int .i64 n) (U : TypeId) (cs : List Value) (hb : Blk w U g cs) (m : Int) (hi : cs[i]? = some (.int .i64 m))
    (h : ∀ w', Blk w' U g (cs.set i (.int .i64 n)) → (∀ k, k ≠ g → w'.heap[k]? = w.heap[k]?) → Below g w w' → wpList Try.prog ops Q rest (a.put op.dst undef) w') : wpList Try.prog ops Q (op :: rest) a w := by
  refine wpList_plain hgd fun K hK => ?_
  have hc := hb.cell hi
  have hf := hb.frozen i
  have hk := h _ (hb.set i (.int .i64 n)) (fun k hkg => Below.heap_setCell w ⟨g, i, none⟩ _ k hkg) ((Below.refl g w).setCell (p := ⟨g, i, none⟩) (Nat.le_refl _) _)
  unfold Oper.wp execOp
  simp only [ho, hx, hy]
  clear h
  go_simp
  exact hK _ _ hk
theorem wpList_storeB {w : World} {ops : Array Oper} {rest : List Oper} {op : Oper} {a : Act} {Q : Exit → Act → World → Prop} (hgd : op.guard = none) (x y : Operand) (ho : op.op = .store 4 x y)
    (g i : Nat) (hx : a.eval x = .pointer (some ⟨g, i, none⟩)) (n : Bool) (hy : a.eval y = .bool n) (U : TypeId) (cs : List Value) (hb : Blk w U g cs) (m : Bool) (hi : cs[i]? = some (.bool m))
    (h : ∀ w', Blk w' U g (cs.set i (.bool n)) → (∀ k, k ≠ g → w'.heap[k]? = w.heap[k]?) → Below g w w' → wpList Try.prog ops Q rest (a.put op.dst undef) w') : wpList Try.prog ops Q (op :: rest) a w := by
  refine wpList_plain hgd fun K hK => ?_
  have hc := hb.cell hi
  have hf := hb.frozen i
  have hk := h _ (hb.set i (.bool n)) (fun k hkg => Below.heap_setCell w ⟨g, i, none⟩ _ k hkg) ((Below.refl g w).setCell (p := ⟨g, i, none⟩) (Nat.le_refl _) _)
  unfold Oper.wp execOp
  simp only [ho, hx, hy]
  clear h
  go_simp
  exact hK _ _ hk
/-- What passed answers: the error; the header. -/
def passN (e p : Nat) (ys : List UInt8) : Nat := if e = 8 then 4 else if ys.length < 8 then 2 else if ys.length < szN p (batN ys 1) then 2 else 0
def passF (f : Fr) (hd e p : Nat) (ys : List UInt8) : Fr := if passN e p ys = 0 then ⟨((hd + szN p (batN ys 1) : Nat) : Int), f.total, f.hop, fragB p (wat ys 2), ((e + 1 : Nat) : Int), (batN ys 0 : Nat), f.s, f.d⟩ else Fr.zero
def ReadGave (w : World) (f : Fr) (k : Nat) (e : Ending) (w' : World) : Prop := e = .returned (.tuple #[frC f, .int .i64 (k : Int)]) ∧ Below w.heap.size w w'
theorem pass_ok (f : Fr) (hok : f.Ok) (hd e p : Nat) (ys : List UInt8) : (passF f hd e p ys).Ok := by
  unfold passF
  split
  · exact ⟨hok.s, hok.d⟩
  · exact Fr.ok_zero

set_option maxRecDepth 100000 in
set_option maxHeartbeats 4000000 in
theorem passed_any {f : Fr} (hok : f.Ok) {hd e p : Nat} (h0 : f.head = (hd : Int)) (h4 : f.exts = (e : Int)) (h5 : f.proto = (p : Int)) (hx : extB p = true) (hhd : hd ≤ 100000) (he : e ≤ 8)
    (A : Option Addr) (len cap : Nat) (ys : List UInt8) (hlen : len ≤ 1000000) (hcap : len ≤ cap) (hcap2 : cap ≤ maxLen) (w : World) (hI : Rd w w.heap.size A len ys) :
    Calls Try.prog 22 #[frC f, .slice A len cap] w (ReadGave w (passF f hd e p ys) (passN e p ys)) := by
  have HL := Lib.hid hI.len
  obtain ⟨Z, hZ⟩ : ∃ Z : World, (w.alloc (.cells (frL f).toArray 28)).alloc (.cells (frL Fr.zero).toArray 28) = Z := ⟨_, rfl⟩
  have b1 : Blk Z 28 w.heap.size (frL f) := by rw [← hZ]; exact (Blk.new w _ _).alloc _
  have b2 : Blk Z 28 (w.heap.size + 1) (frL Fr.zero) := by
    rw [← hZ]
    have := Blk.new (w.alloc (.cells (frL f).toArray 28)) 28 (frL Fr.zero)
    simpa using this
  have hB0 : Below w.heap.size w Z := by rw [← hZ]; exact ((Below.refl w.heap.size w).alloc (Nat.le_refl _) _).alloc (by simp) _
  have hzs : Z.heap.size = w.heap.size + 2 := by rw [← hZ]; simp
  have k4 := b1.cell (i := 4) (v := .int .i64 f.exts) rfl
  rw [h4] at k4
  rw [← zeroF] at hZ
  rw [← hZ] at k4
  have HI := Lib.hid (hI.below hB0)
  have HZ := Lib.hid hZ
  have HB1 := Lib.hid b1
  have HB2 := Lib.hid b2
  have HB0 := Lib.hid hB0
  have HZS := Lib.hid hzs
  have HZO := Lib.hid Fr.ok_zero
  have HOK := Lib.hid hok
  have H0 := Lib.hid h0
  have H4 := Lib.hid h4
  have H5 := Lib.hid h5
  clear hZ b1 b2 hB0 hzs hok hI h0 h4 h5
  unfold frC
  by_cases e8 : e = 8
  · have E1 : passN e p ys = 4 := by unfold passN; rw [if_pos e8]
    have E2 : passF f hd e p ys = Fr.zero := by unfold passF; rw [if_neg (by rw [E1]; decide)]
    rw [E1, E2]
    have q8 : ((e : Int) == 8) = true := by simp; omega
    clear E1 E2
    go_enter Try.func22, Try.ntmps22
    go_wp2_with (first
      | ((with_reducible show wpList _ _ _ _ _ _); refine wpList_buildTo rfl 28 _ rfl (some 10) rfl (frL Fr.zero).toArray (by kernel_rfl) ?_)
      | ((with_reducible show wpList _ _ _ _ _ _); rw [HZ.out]; refine wpList_storeR rfl 28 (.tmp 4) (.tmp 10) rfl (w.heap.size + 1) (by rfl) (frL Fr.zero) (by rfl) _ HB2.out rfl (sizeFrL HZO.out) (frL_one _) ?_))
    refine bodyPost_ret (v := .tuple #[frC Fr.zero, .int .i64 4]) (results_fr rfl _ _ (w.heap.size + 1) (by rfl) _ HZO.out (HB2.out.setRow_ _) _ (by rfl)) rfl ?_
    exact ⟨rfl, below_setRow HB0.out (Nat.le_succ _) _⟩
  have q8 : ((e : Int) == 8) = false := by simp; omega
  have E0 := Lib.hid e8
  clear e8
  by_cases l8 : len < 8
  · have E1 : passN e p ys = 2 := by unfold passN; rw [if_neg E0.out, if_pos (by rw [HL.out]; exact l8)]
    have E2 : passF f hd e p ys = Fr.zero := by unfold passF; rw [if_neg (by rw [E1]; decide)]
    rw [E1, E2]
    have l8' : (len : Int) < 8 := by omega
    clear E1 E2
    go_enter Try.func22, Try.ntmps22
    go_wp2_with (first
      | ((with_reducible show wpList _ _ _ _ _ _); refine wpList_buildTo rfl 28 _ rfl (some 14) rfl (frL Fr.zero).toArray (by kernel_rfl) ?_)
      | ((with_reducible show wpList _ _ _ _ _ _); rw [HZ.out]; refine wpList_storeR rfl 28 (.tmp 4) (.tmp 14) rfl (w.heap.size + 1) (by rfl) (frL Fr.zero) (by rfl) _ HB2.out rfl (sizeFrL HZO.out) (frL_one _) ?_))
    refine bodyPost_ret (v := .tuple #[frC Fr.zero, .int .i64 2]) (results_fr rfl _ _ (w.heap.size + 1) (by rfl) _ HZO.out (HB2.out.setRow_ _) _ (by rfl)) rfl ?_
    exact ⟨rfl, below_setRow HB0.out (Nat.le_succ _) _⟩
  have l8' : ¬ (len : Int) < 8 := by omega
  obtain ⟨b, off, rfl, hbw⟩ := HI.out.addr (by omega)
  have S0 := Lib.hid (szI_nat hx (batN ys 1))
  have m1l := batN_lt ys 1
  have szl := szN_le p (batN ys 1) m1l
  have PN := Lib.hid (show passN e p ys = if len < szN p (batN ys 1) then 2 else 0 by unfold passN; rw [if_neg E0.out, if_neg (by rw [HL.out]; exact l8), HL.out])
  have PF := Lib.hid (show passF f hd e p ys = if passN e p ys = 0 then ⟨((hd + szN p (batN ys 1) : Nat) : Int), f.total, f.hop, fragB p (wat ys 2), ((e + 1 : Nat) : Int), (batN ys 0 : Nat), f.s, f.d⟩ else Fr.zero from rfl)
  have HSZ := Lib.hid (fun W => size_any (p : Int) (batN ys 1) m1l W)
  rw [S0.out] at HSZ
  generalize passN e p ys = pn at *
  generalize passF f hd e p ys = pf at *
  generalize szN p (batN ys 1) = sz at *
  have l1 : (1 : Int) < (len : Int) := by omega
  have K5 := Lib.hid (fun W (hW : Below Z.heap.size Z W) => by have := (HB1.out.below HB1.out.lt hW).cell (i := 5) (v := .int .i64 f.proto) rfl; rw [H5.out] at this; exact this)
  have C1 := Lib.hid (fun W (hW : Below Z.heap.size Z W) => (HI.out.below (hW.mono HB0.out.size)).cellD (k := 1) (by omega))
  generalize batN ys 1 = m1 at *
  have w1 : IntKind.i64.wrap (m1 : Int) = (m1 : Int) := by rw [IntKind.wrap_i64]; omega
  obtain ⟨Y, hY⟩ : ∃ Y, Z.drew = Y := ⟨_, rfl⟩
  have HYQ : Hid (Blk Y 28 w.heap.size (frL f)) := by rw [← hY]; exact Lib.hid HB1.out.drew
  have HYR : Hid (Blk Y 28 (w.heap.size + 1) (frL Fr.zero)) := by rw [← hY]; exact Lib.hid HB2.out.drew
  have HYB : Hid (Below w.heap.size w Y) := by rw [← hY]; exact Lib.hid HB0.out.drew
  have HYI : Hid (Rd Y w.heap.size (some ⟨b, off, none⟩) len ys) := by rw [← hY]; exact Lib.hid HI.out.drew
  have HY := Lib.hid hY
  clear hY S0 m1l
  by_cases hl : len < sz
  · have E1 : pn = 2 := by rw [PN.out, if_pos hl]
    have E2 : pf = Fr.zero := by rw [PF.out, if_neg (by rw [E1]; decide)]
    subst E1 E2
    have hl' : (len : Int) < (sz : Int) := by omega
    clear PN PF hl
    go_enter Try.func22, Try.ntmps22
    go_wp2_with fail
    rw [HZ.out]
    refine wp_region_held_drew (S := fun W => Below Z.heap.size Z W) (by kernel_rfl) (Below.refl _ _).drew (fun hHeld => ?_)
    refine wpAnyH_take (i := 0) (oi := ⟨some 15, _, _, _, _, _⟩) (v := .pointer (some ⟨w.heap.size, 5, none⟩)) rfl (by kernel_rfl) (by kernel_rfl) (by kernel_rfl) (fun _ _ _ h => h) (Or.inl ⟨by rfl, fun _ _ => by go_simp⟩) hHeld ?_
    simp only [Act.put, List.setIfInBounds_toArray, List.set_cons_zero, List.set_cons_succ]
    refine wpAnyH_take (i := 1) (oi := ⟨some 16, _, _, _, _, _⟩) (v := .int .i64 (p : Int)) rfl (by kernel_rfl) (by kernel_rfl) (by kernel_rfl) (fun _ _ _ h => h) (Or.inl ⟨by rfl, fun W hW => by have hc := K5.out W hW; go_simp⟩) hHeld ?_
    simp only [Act.put, List.setIfInBounds_toArray, List.set_cons_zero, List.set_cons_succ]
    refine wpAnyH_take (i := 2) (oi := ⟨some 17, _, _, _, _, _⟩) (v := .slice (some ⟨b, off, none⟩) len cap) rfl (by kernel_rfl) (by kernel_rfl) (by kernel_rfl) (fun _ _ _ h => h) (Or.inl ⟨by rfl, fun _ _ => by go_simp⟩) hHeld ?_
    simp only [Act.put, List.setIfInBounds_toArray, List.set_cons_zero, List.set_cons_succ]
    refine wpAnyH_take (i := 3) (oi := ⟨some 18, _, _, _, _, _⟩) (v := .pointer (some ⟨b, off + 1, none⟩)) rfl (by kernel_rfl) (by kernel_rfl) (by kernel_rfl) (fun _ _ _ h => h) (Or.inl ⟨by rfl, fun _ _ => by go_simp⟩) hHeld ?_
    simp only [Act.put, List.setIfInBounds_toArray, List.set_cons_zero, List.set_cons_succ]
    refine wpAnyH_take (i := 4) (oi := ⟨some 19, _, _, _, _, _⟩) (v := .int .u8 (m1 : Int)) rfl (by kernel_rfl) (by kernel_rfl) (by kernel_rfl) (fun _ _ _ h => h) (Or.inl ⟨by rfl, fun W hW => by have hc := C1.out W hW; go_simp⟩) hHeld ?_
    simp only [Act.put, List.setIfInBounds_toArray, List.set_cons_zero, List.set_cons_succ]
    refine wpAnyH_take (i := 5) (oi := ⟨some 20, _, _, _, _, _⟩) (v := .int .i64 (m1 : Int)) rfl (by kernel_rfl) (by kernel_rfl) (by kernel_rfl) (fun _ _ _ h => h) (Or.inl ⟨by rfl, fun _ _ => by go_simp⟩) hHeld ?_
    simp only [Act.put, List.setIfInBounds_toArray, List.set_cons_zero, List.set_cons_succ]
    refine wpAnyH_ready (rs := [6]) (by kernel_rfl) (by simp) (AllReadyH.cons (o := ⟨some 21, _, _, _, _, _⟩) rfl (fun K hK => ?_) AllReadyH.nil)
    go_simp
    refine (HSZ.out _).mono ?_
    rintro e3 w3 ⟨rfl, rfl⟩
    refine hK.out _ _ hHeld (fun hHeld => ?_)
    clear hK K
    refine wpAnyH_take (i := 7) (oi := ⟨some 6, _, _, _, _, _⟩) (v := .int .i64 (sz : Int)) rfl (by kernel_rfl) (by kernel_rfl) (by kernel_rfl) (fun _ _ _ h => h) (Or.inl ⟨by rfl, fun _ _ => by go_simp⟩) hHeld ?_
    simp only [Act.put, List.setIfInBounds_toArray, List.set_cons_zero, List.set_cons_succ]
    refine wpAnyH_done (by kernel_rfl) ?_ _
    clear hHeld
    rw [HY.out]
    go_wp2_with (first
      | ((with_reducible show wpList _ _ _ _ _ _); refine wpList_buildTo rfl 28 _ rfl (some 26) rfl (frL Fr.zero).toArray (by kernel_rfl) ?_)
      | ((with_reducible show wpList _ _ _ _ _ _); refine wpList_storeR rfl 28 (.tmp 4) (.tmp 26) rfl (w.heap.size + 1) (by rfl) (frL Fr.zero) (by rfl) _ HYR.out rfl (sizeFrL HZO.out) (frL_one _) ?_))
    refine bodyPost_ret (v := .tuple #[frC Fr.zero, .int .i64 2]) (results_fr rfl _ _ (w.heap.size + 1) (by rfl) _ HZO.out (HYR.out.setRow_ _) _ (by rfl)) rfl ?_
    exact ⟨rfl, below_setRow HYB.out (Nat.le_succ _) _⟩
  have E1 : pn = 0 := by rw [PN.out, if_neg hl]
  have E2 : pf = ⟨((hd + sz : Nat) : Int), f.total, f.hop, fragB p (wat ys 2), ((e + 1 : Nat) : Int), (batN ys 0 : Nat), f.s, f.d⟩ := by rw [PF.out, if_pos E1]
  have HFO := Lib.hid (show pf.Ok by rw [E2]; exact ⟨HOK.out.s, HOK.out.d⟩)
  subst E1
  have hl' : ¬ (len : Int) < (sz : Int) := by omega
  have l0 : (0 : Int) < (len : Int) := by omega
  have hw0 : IntKind.i64.wrap ((hd : Int) + (sz : Int)) = ((hd + sz : Nat) : Int) := by rw [IntKind.wrap_i64]; omega
  have hw1 : IntKind.i64.wrap ((e : Int) + 1) = ((e + 1 : Nat) : Int) := by rw [IntKind.wrap_i64]; omega
  have HNU := Lib.hid (num_any (p := 2) 2 rfl (by omega) hcap hcap2 (by omega) (HYI.out.more HYB.out.size))
  have C0 := Lib.hid (fun W (hW : Below w.heap.size Y W) => (HYI.out.below hW).cellD (k := 0) (by omega))
  have hwl := wat_lt ys 2
  have hfb := fun (h : p = 44) => h ▸ frag_bits (wat ys 2) hwl
  have hfn : p ≠ 44 → fragB p (wat ys 2) = false := fun h => by simp [fragB, h]
  have hb0l := batN_lt ys 0
  generalize fragB p (wat ys 2) = fb at *
  generalize wat ys 2 = w2 at *
  generalize batN ys 0 = x0 at *
  have hwx : IntKind.i64.wrap (x0 : Int) = (x0 : Int) := by rw [IntKind.wrap_i64]; omega
  have y0 := HYQ.out.cell (i := 0) (v := .int .i64 f.head) rfl
  rw [H0.out] at y0
  have y5 := HYQ.out.cell (i := 5) (v := .int .i64 f.proto) rfl
  rw [H5.out] at y5
  have HPF := Lib.hid E2
  have HFB := Lib.hid hfb
  clear PN PF hl hfb E2 y0
  by_cases p44 : p = 44
  · have Q44 : Hid (((p : Int) == 44) = true) := Lib.hid (by simp; omega)
    have HFB2 := Lib.hid (HFB.out p44)
    clear HFB hfn p44
    go_enter Try.func22, Try.ntmps22
    go_wp2_with fail
    rw [HZ.out]
    refine wp_region_held_drew (S := fun W => Below Z.heap.size Z W) (by kernel_rfl) (Below.refl _ _).drew (fun hHeld => ?_)
    refine wpAnyH_take (i := 0) (oi := ⟨some 15, _, _, _, _, _⟩) (v := .pointer (some ⟨w.heap.size, 5, none⟩)) rfl (by kernel_rfl) (by kernel_rfl) (by kernel_rfl) (fun _ _ _ h => h) (Or.inl ⟨by rfl, fun _ _ => by go_simp⟩) hHeld ?_
    simp only [Act.put, List.setIfInBounds_toArray, List.set_cons_zero, List.set_cons_succ]
    refine wpAnyH_take (i := 1) (oi := ⟨some 16, _, _, _, _, _⟩) (v := .int .i64 (p : Int)) rfl (by kernel_rfl) (by kernel_rfl) (by kernel_rfl) (fun _ _ _ h => h) (Or.inl ⟨by rfl, fun W hW => by have hc := K5.out W hW; go_simp⟩) hHeld ?_
    simp only [Act.put, List.setIfInBounds_toArray, List.set_cons_zero, List.set_cons_succ]
    refine wpAnyH_take (i := 2) (oi := ⟨some 17, _, _, _, _, _⟩) (v := .slice (some ⟨b, off, none⟩) len cap) rfl (by kernel_rfl) (by kernel_rfl) (by kernel_rfl) (fun _ _ _ h => h) (Or.inl ⟨by rfl, fun _ _ => by go_simp⟩) hHeld ?_
    simp only [Act.put, List.setIfInBounds_toArray, List.set_cons_zero, List.set_cons_succ]
    refine wpAnyH_take (i := 3) (oi := ⟨some 18, _, _, _, _, _⟩) (v := .pointer (some ⟨b, off + 1, none⟩)) rfl (by kernel_rfl) (by kernel_rfl) (by kernel_rfl) (fun _ _ _ h => h) (Or.inl ⟨by rfl, fun _ _ => by go_simp⟩) hHeld ?_
    simp only [Act.put, List.setIfInBounds_toArray, List.set_cons_zero, List.set_cons_succ]
    refine wpAnyH_take (i := 4) (oi := ⟨some 19, _, _, _, _, _⟩) (v := .int .u8 (m1 : Int)) rfl (by kernel_rfl) (by kernel_rfl) (by kernel_rfl) (fun _ _ _ h => h) (Or.inl ⟨by rfl, fun W hW => by have hc := C1.out W hW; go_simp⟩) hHeld ?_
    simp only [Act.put, List.setIfInBounds_toArray, List.set_cons_zero, List.set_cons_succ]
    refine wpAnyH_take (i := 5) (oi := ⟨some 20, _, _, _, _, _⟩) (v := .int .i64 (m1 : Int)) rfl (by kernel_rfl) (by kernel_rfl) (by kernel_rfl) (fun _ _ _ h => h) (Or.inl ⟨by rfl, fun _ _ => by go_simp⟩) hHeld ?_
    simp only [Act.put, List.setIfInBounds_toArray, List.set_cons_zero, List.set_cons_succ]
    refine wpAnyH_ready (rs := [6]) (by kernel_rfl) (by simp) (AllReadyH.cons (o := ⟨some 21, _, _, _, _, _⟩) rfl (fun K hK => ?_) AllReadyH.nil)
    go_simp
    refine (HSZ.out _).mono ?_
    rintro e3 w3 ⟨rfl, rfl⟩
    refine hK.out _ _ hHeld (fun hHeld => ?_)
    clear hK K
    refine wpAnyH_take (i := 7) (oi := ⟨some 6, _, _, _, _, _⟩) (v := .int .i64 (sz : Int)) rfl (by kernel_rfl) (by kernel_rfl) (by kernel_rfl) (fun _ _ _ h => h) (Or.inl ⟨by rfl, fun _ _ => by go_simp⟩) hHeld ?_
    simp only [Act.put, List.setIfInBounds_toArray, List.set_cons_zero, List.set_cons_succ]
    refine wpAnyH_done (by kernel_rfl) ?_ _
    clear hHeld
    rw [HY.out]
    have q44 := Q44.out
    go_wp2_with fail
    refine HNU.out.mono ?_
    rintro e6 w6 ⟨rfl, hb6⟩
    have V1 := Lib.hid (HYQ.out.below HYQ.out.lt hb6)
    have V2 := Lib.hid (HYR.out.below HYR.out.lt hb6)
    have V3 := Lib.hid (hb6.mono HYB.out.size)
    have hfb := HFB2.out
    clear hb6 y5
    clear HFB2
    go_wp2_with (first
      | ((with_reducible show wpList _ _ _ _ _ _); refine wpList_storeB rfl (.tmp 36) (.tmp 35) rfl w.heap.size 3 (by rfl) fb (by rfl) 28 _ V1.out f.frag rfl ?_; intro w7 hq7 hf7 hb7; have Q7 : Hid (Blk w7 28 w.heap.size (frL ⟨f.head, f.total, f.hop, fb, f.exts, f.proto, f.s, f.d⟩)) := Lib.hid hq7; have R7 : Hid (Blk w7 28 (w.heap.size + 1) (frL Fr.zero)) := Lib.hid ((hf7 _ (Nat.succ_ne_self _)).trans V2.out); have B7 := Lib.hid (V3.out.trans hb7); have z0 := Q7.out.cell (i := 0) (v := .int .i64 f.head) rfl; rw [H0.out] at z0; clear hq7 hf7 hb7)
      | ((with_reducible show wpList _ _ _ _ _ _); refine wpList_storeI rfl (.tmp 41) (.tmp 40) rfl w.heap.size 0 (by rfl) ((hd + sz : Nat) : Int) (by rfl) 28 _ Q7.out f.head rfl ?_; intro w8 hq8 hf8 hb8; have Q8 : Hid (Blk w8 28 w.heap.size (frL ⟨((hd + sz : Nat) : Int), f.total, f.hop, fb, f.exts, f.proto, f.s, f.d⟩)) := Lib.hid hq8; have R8 : Hid (Blk w8 28 (w.heap.size + 1) (frL Fr.zero)) := Lib.hid ((hf8 _ (Nat.succ_ne_self _)).trans R7.out); have B8 := Lib.hid (B7.out.trans hb8); have z4 := Q8.out.cell (i := 4) (v := .int .i64 f.exts) rfl; rw [H4.out] at z4; clear hq8 hf8 hb8 z0)
      | ((with_reducible show wpList _ _ _ _ _ _); refine wpList_storeI rfl (.tmp 45) (.tmp 44) rfl w.heap.size 4 (by rfl) ((e + 1 : Nat) : Int) (by rfl) 28 _ Q8.out f.exts rfl ?_; intro w9 hq9 hf9 hb9; have Q9 : Hid (Blk w9 28 w.heap.size (frL ⟨((hd + sz : Nat) : Int), f.total, f.hop, fb, ((e + 1 : Nat) : Int), f.proto, f.s, f.d⟩)) := Lib.hid hq9; have R9 : Hid (Blk w9 28 (w.heap.size + 1) (frL Fr.zero)) := Lib.hid ((hf9 _ (Nat.succ_ne_self _)).trans R8.out); have B9 := Lib.hid (B8.out.trans hb9); have c0 := C0.out _ B9.out; rw [Nat.add_zero] at c0; clear hq9 hf9 hb9 z4)
      | ((with_reducible show wpList _ _ _ _ _ _); refine wpList_storeI rfl (.tmp 50) (.tmp 49) rfl w.heap.size 5 (by rfl) (x0 : Int) (by rfl) 28 _ Q9.out f.proto rfl ?_; intro wa hqa hfa hba; have QA : Hid (Blk wa 28 w.heap.size (frL pf)) := Lib.hid (by rw [HPF.out]; exact hqa); have RA : Hid (Blk wa 28 (w.heap.size + 1) (frL Fr.zero)) := Lib.hid ((hfa _ (Nat.succ_ne_self _)).trans R9.out); have BA := Lib.hid (HYB.out.trans (B9.out.trans hba)); clear hqa hfa hba c0)
      | ((with_reducible show wpList _ _ _ _ _ _); refine wpList_loadF rfl (.tmp 2) rfl w.heap.size (by rfl) pf HFO.out QA.out ?_)
      | ((with_reducible show wpList _ _ _ _ _ _); refine wpList_storeR rfl 28 (.tmp 4) (.tmp 51) rfl (w.heap.size + 1) (by rfl) (frL pf) (by rfl) _ RA.out (by rw [frL_len HFO.out]; rfl) (sizeFrL HFO.out) (frL_one _) ?_))
    refine bodyPost_ret (v := .tuple #[frC pf, .int .i64 0]) (results_fr rfl _ _ (w.heap.size + 1) (by rfl) _ HFO.out (RA.out.setRow_ _) _ (by rfl)) rfl ?_
    exact ⟨rfl, below_setRow BA.out (Nat.le_succ _) _⟩
  have q44 : ((p : Int) == 44) = false := by simp; omega
  have hfb := hfn p44
  subst hfb
  have V1 := HYQ
  have V2 := HYR
  have V3 := Lib.hid (Below.refl w.heap.size Y)
  clear HFB hfn
  go_enter Try.func22, Try.ntmps22
  go_wp2_with fail
  rw [HZ.out]
  refine wp_region_held_drew (S := fun W => Below Z.heap.size Z W) (by kernel_rfl) (Below.refl _ _).drew (fun hHeld => ?_)
  refine wpAnyH_take (i := 0) (oi := ⟨some 15, _, _, _, _, _⟩) (v := .pointer (some ⟨w.heap.size, 5, none⟩)) rfl (by kernel_rfl) (by kernel_rfl) (by kernel_rfl) (fun _ _ _ h => h) (Or.inl ⟨by rfl, fun _ _ => by go_simp⟩) hHeld ?_
  simp only [Act.put, List.setIfInBounds_toArray, List.set_cons_zero, List.set_cons_succ]
  refine wpAnyH_take (i := 1) (oi := ⟨some 16, _, _, _, _, _⟩) (v := .int .i64 (p : Int)) rfl (by kernel_rfl) (by kernel_rfl) (by kernel_rfl) (fun _ _ _ h => h) (Or.inl ⟨by rfl, fun W hW => by have hc := K5.out W hW; go_simp⟩) hHeld ?_
  simp only [Act.put, List.setIfInBounds_toArray, List.set_cons_zero, List.set_cons_succ]
  refine wpAnyH_take (i := 2) (oi := ⟨some 17, _, _, _, _, _⟩) (v := .slice (some ⟨b, off, none⟩) len cap) rfl (by kernel_rfl) (by kernel_rfl) (by kernel_rfl) (fun _ _ _ h => h) (Or.inl ⟨by rfl, fun _ _ => by go_simp⟩) hHeld ?_
  simp only [Act.put, List.setIfInBounds_toArray, List.set_cons_zero, List.set_cons_succ]
  refine wpAnyH_take (i := 3) (oi := ⟨some 18, _, _, _, _, _⟩) (v := .pointer (some ⟨b, off + 1, none⟩)) rfl (by kernel_rfl) (by kernel_rfl) (by kernel_rfl) (fun _ _ _ h => h) (Or.inl ⟨by rfl, fun _ _ => by go_simp⟩) hHeld ?_
  simp only [Act.put, List.setIfInBounds_toArray, List.set_cons_zero, List.set_cons_succ]
  refine wpAnyH_take (i := 4) (oi := ⟨some 19, _, _, _, _, _⟩) (v := .int .u8 (m1 : Int)) rfl (by kernel_rfl) (by kernel_rfl) (by kernel_rfl) (fun _ _ _ h => h) (Or.inl ⟨by rfl, fun W hW => by have hc := C1.out W hW; go_simp⟩) hHeld ?_
  simp only [Act.put, List.setIfInBounds_toArray, List.set_cons_zero, List.set_cons_succ]
  refine wpAnyH_take (i := 5) (oi := ⟨some 20, _, _, _, _, _⟩) (v := .int .i64 (m1 : Int)) rfl (by kernel_rfl) (by kernel_rfl) (by kernel_rfl) (fun _ _ _ h => h) (Or.inl ⟨by rfl, fun _ _ => by go_simp⟩) hHeld ?_
  simp only [Act.put, List.setIfInBounds_toArray, List.set_cons_zero, List.set_cons_succ]
  refine wpAnyH_ready (rs := [6]) (by kernel_rfl) (by simp) (AllReadyH.cons (o := ⟨some 21, _, _, _, _, _⟩) rfl (fun K hK => ?_) AllReadyH.nil)
  go_simp
  refine (HSZ.out _).mono ?_
  rintro e3 w3 ⟨rfl, rfl⟩
  refine hK.out _ _ hHeld (fun hHeld => ?_)
  clear hK K
  refine wpAnyH_take (i := 7) (oi := ⟨some 6, _, _, _, _, _⟩) (v := .int .i64 (sz : Int)) rfl (by kernel_rfl) (by kernel_rfl) (by kernel_rfl) (fun _ _ _ h => h) (Or.inl ⟨by rfl, fun _ _ => by go_simp⟩) hHeld ?_
  simp only [Act.put, List.setIfInBounds_toArray, List.set_cons_zero, List.set_cons_succ]
  refine wpAnyH_done (by kernel_rfl) ?_ _
  clear hHeld
  rw [HY.out]
  go_wp2_with (first
    | ((with_reducible show wpList _ _ _ _ _ _); refine wpList_storeB rfl (.tmp 36) (.tmp 35) rfl w.heap.size 3 (by rfl) false (by rfl) 28 _ V1.out f.frag rfl ?_; intro w7 hq7 hf7 hb7; have Q7 : Hid (Blk w7 28 w.heap.size (frL ⟨f.head, f.total, f.hop, false, f.exts, f.proto, f.s, f.d⟩)) := Lib.hid hq7; have R7 : Hid (Blk w7 28 (w.heap.size + 1) (frL Fr.zero)) := Lib.hid ((hf7 _ (Nat.succ_ne_self _)).trans V2.out); have B7 := Lib.hid (V3.out.trans hb7); have z0 := Q7.out.cell (i := 0) (v := .int .i64 f.head) rfl; rw [H0.out] at z0; clear hq7 hf7 hb7)
    | ((with_reducible show wpList _ _ _ _ _ _); refine wpList_storeI rfl (.tmp 41) (.tmp 40) rfl w.heap.size 0 (by rfl) ((hd + sz : Nat) : Int) (by rfl) 28 _ Q7.out f.head rfl ?_; intro w8 hq8 hf8 hb8; have Q8 : Hid (Blk w8 28 w.heap.size (frL ⟨((hd + sz : Nat) : Int), f.total, f.hop, false, f.exts, f.proto, f.s, f.d⟩)) := Lib.hid hq8; have R8 : Hid (Blk w8 28 (w.heap.size + 1) (frL Fr.zero)) := Lib.hid ((hf8 _ (Nat.succ_ne_self _)).trans R7.out); have B8 := Lib.hid (B7.out.trans hb8); have z4 := Q8.out.cell (i := 4) (v := .int .i64 f.exts) rfl; rw [H4.out] at z4; clear hq8 hf8 hb8 z0)
    | ((with_reducible show wpList _ _ _ _ _ _); refine wpList_storeI rfl (.tmp 45) (.tmp 44) rfl w.heap.size 4 (by rfl) ((e + 1 : Nat) : Int) (by rfl) 28 _ Q8.out f.exts rfl ?_; intro w9 hq9 hf9 hb9; have Q9 : Hid (Blk w9 28 w.heap.size (frL ⟨((hd + sz : Nat) : Int), f.total, f.hop, false, ((e + 1 : Nat) : Int), f.proto, f.s, f.d⟩)) := Lib.hid hq9; have R9 : Hid (Blk w9 28 (w.heap.size + 1) (frL Fr.zero)) := Lib.hid ((hf9 _ (Nat.succ_ne_self _)).trans R8.out); have B9 := Lib.hid (B8.out.trans hb9); have c0 := C0.out _ B9.out; rw [Nat.add_zero] at c0; clear hq9 hf9 hb9 z4)
    | ((with_reducible show wpList _ _ _ _ _ _); refine wpList_storeI rfl (.tmp 50) (.tmp 49) rfl w.heap.size 5 (by rfl) (x0 : Int) (by rfl) 28 _ Q9.out f.proto rfl ?_; intro wa hqa hfa hba; have QA : Hid (Blk wa 28 w.heap.size (frL pf)) := Lib.hid (by rw [HPF.out]; exact hqa); have RA : Hid (Blk wa 28 (w.heap.size + 1) (frL Fr.zero)) := Lib.hid ((hfa _ (Nat.succ_ne_self _)).trans R9.out); have BA := Lib.hid (HYB.out.trans (B9.out.trans hba)); clear hqa hfa hba c0)
    | ((with_reducible show wpList _ _ _ _ _ _); refine wpList_loadF rfl (.tmp 2) rfl w.heap.size (by rfl) pf HFO.out QA.out ?_)
    | ((with_reducible show wpList _ _ _ _ _ _); refine wpList_storeR rfl 28 (.tmp 4) (.tmp 51) rfl (w.heap.size + 1) (by rfl) (frL pf) (by rfl) _ RA.out (by rw [frL_len HFO.out]; rfl) (sizeFrL HFO.out) (frL_one _) ?_))
  refine bodyPost_ret (v := .tuple #[frC pf, .int .i64 0]) (results_fr rfl _ _ (w.heap.size + 1) (by rfl) _ HFO.out (RA.out.setRow_ _) _ (by rfl)) rfl ?_
  exact ⟨rfl, below_setRow BA.out (Nat.le_succ _) _⟩
end Go.Proofs.Ythicbdjambmnpaa
