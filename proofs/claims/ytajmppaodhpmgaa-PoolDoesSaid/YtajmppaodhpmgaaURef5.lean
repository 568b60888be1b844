/-
  The document's SameOne.
-/
import Derived.Test.YtajmppaodhpmgaaURef4
namespace Go.Proofs.Ytajmppaodhpmgaa
set_option maxRecDepth 100000
open Go.RowKit Go.Lib

def bkQ (a b : Bk) : Bool := decide (a.nm = b.nm) && adB a.ad b.ad && decide (a.port = b.port) && decide (a.mac = b.mac) && decide (a.dr = b.dr) && decide (canW a.wt = canW b.wt)
theorem box_bk2 (w : World) (a b : Bk) : ∃ Y : World, (w.alloc (.cells (bkL a).toArray 36)).alloc (.cells (bkL b).toArray 36) = Y ∧ Blk Y 36 w.heap.size (bkL a) ∧ Blk Y 36 (w.heap.size + 1) (bkL b) ∧ Below w.heap.size w Y := by
  refine ⟨_, rfl, Blk_10.alloc (Blk_10.new w _ _) _, ?_, ((Below.refl w.heap.size w).alloc (Nat.le_refl _) _).alloc (by simp) _⟩
  have h := Blk_10.new (w.alloc (.cells (bkL a).toArray 36)) 36 (bkL b)
  rw [World.size_alloc] at h
  exact h
theorem bk_mrange {b : Bk} {w : World} {T : TypeId} {g : Nat} (h : Blk w T g (bkL b)) : w.rangeAt g 19 (b.mac.map v8) :=
  Blk_10.mid h (pre := strV b.nm :: (adL b.ad ++ [.int .i64 b.port])) (post := [.float .f64 b.wt, .bool b.dr]) (by simp [bkL]) (by simp [adL_len b.hb])
theorem run_eqs6 (w : World) (d : Nat) {xs ys : List UInt8} (hx : xs.length = 6) (hy : ys.length = 6) : (Op.equalIn (d + 2) 33 (.agg (xs.map v8).toArray) (.agg (ys.map v8).toArray)).run Try.prog w = .ok (decide (xs = ys)) w := by
  obtain ⟨i, hi⟩ := info_u8
  rw [show d + 2 = (d + 1) + 1 from rfl, run_equalIn_array w (d + 1) _ _ Try.underlying33 hi, cells_u8', run_items8 w d xs ys (by omega) _ (fun i hi => by rw [hx]; exact List.mem_range.1 hi)]
  rw [all_range hx hy]
theorem run_eqlM (w : World) {xs ys : List UInt8} (hx : xs.length = 6) (hy : ys.length = 6) : (binOp .eql 33 (.agg (xs.map v8).toArray) (.agg (ys.map v8).toArray)).run Try.prog w = .ok (.bool (decide (xs = ys))) w := by
  have h : (Op.equal 33 (.agg (xs.map v8).toArray) (.agg (ys.map v8).toArray)).run Try.prog w = .ok (decide (xs = ys)) w := run_eqs6 w 9998 hx hy
  simp [binOp, h]
theorem guardM : Try.prog.eqGuardType Try.prog.depth 33 = false := by kernel_rfl
theorem guardA : Try.prog.eqGuardType Try.prog.depth 32 = false := by kernel_rfl
theorem wpList_eqlU {w : World} {ops : Array Oper} {rest : List Oper} {op : Oper} {a : Act} {Q : Exit → Act → World → Prop} (T k : TypeId) (x y : Operand) (ho : op.op = .binOp .eql T x y k) (hw : Region.wanted op (yielded ops a.tmps) = true)
    (xs ys : Array Value) (hx : a.eval x = .agg xs) (hy : a.eval y = .agg ys) (hm : Try.prog.eqGuardType Try.prog.depth T = false) (r : Bool) (hr : ∀ w, (binOp .eql T (.agg xs) (.agg ys)).run Try.prog w = .ok (.bool r) w)
    (hk : wpList Try.prog ops Q rest (a.put op.dst (.bool r)) w) : wpList Try.prog ops Q (op :: rest) a w :=
  BigFrame.wpList_want hw fun K hK => by
    unfold Oper.wp execOp
    simp only [ho, hx, hy, Sem.run_bind, run_eqGuard_agg w .eql T x y xs ys hm, Result.andThen_ok, hr, Sem.run_pure]
    exact hK _ _ hk
theorem size_mac {xs : List UInt8} (h : xs.length = 6) : (Try.prog.info? 33).map (·.size) = some (xs.map v8).length := by
  rw [List.length_map, h]
  kernel_rfl
/-- Six bytes loaded out of a block. -/
theorem wpList_loadMU {w : World} {ops : Array Oper} {rest : List Oper} {op : Oper} {a : Act} {Q : Exit → Act → World → Prop} (x : Operand) (ho : op.op = .load 33 x) (hw : Region.wanted op (yielded ops a.tmps) = true)
    (g o : Nat) (hx : a.eval x = .pointer (some ⟨g, o, none⟩)) (xs : List UInt8) (h : xs.length = 6) (hb : w.rangeAt g o (xs.map v8)) (C : Array Value) (hC : (xs.map v8).toArray = C)
    (hk : wpList Try.prog ops Q rest (a.put op.dst (.agg C)) w) : wpList Try.prog ops Q (op :: rest) a w := by
  subst hC
  exact BigFrame.wpList_want hw fun _ hK => wp_load_mid 33 x ho g o hx (xs.map v8) _ hb Try.underlying33 rfl (size_mac h) (hK _ _ hk)
set_option maxHeartbeats 4000000 in
theorem rsame1_any (a b : Bk) (w : World) : Calls Try.prog 22 #[bkC a, bkC b] w fun e w' => e = .returned (.bool (bkQ a b)) ∧ Below w.heap.size w w' := by
  obtain ⟨Y, hY, ka, kb, hB⟩ := box_bk2 w a b
  have hS := fun W => rsame14_any a.hw b.hw W
  have q0 : Y.cell? ⟨w.heap.size, 0, none⟩ = some (.string ⟨a.nm.toArray⟩) := Blk_10.cell ka (bk_nm a)
  have p0 : Y.cell? ⟨w.heap.size + 1, 0, none⟩ = some (.string ⟨b.nm.toArray⟩) := Blk_10.cell kb (bk_nm b)
  have q2 := Blk_10.cell ka (bk_port a)
  have p2 := Blk_10.cell kb (bk_port b)
  have q4 := Blk_10.cell ka (bk_wt a)
  have p4 := Blk_10.cell kb (bk_wt b)
  have q5 := Blk_10.cell ka (bk_dr a)
  have p5 := Blk_10.cell kb (bk_dr b)
  have ra := bk_range ka
  have rb := bk_range kb
  have ma := bk_mrange ka
  have mb := bk_mrange kb
  have he := fun W => run_eql_ad W a.hb b.hb
  have hm := fun W => run_eqlM W a.hm b.hm
  have H1 := Lib.hid a.hb
  have H2 := Lib.hid b.hb
  have H3 := Lib.hid a.hm
  have H4 := Lib.hid b.hm
  unfold adC at he
  obtain ⟨CA, hCA⟩ : ∃ C, (adL a.ad).toArray = C := ⟨_, rfl⟩
  obtain ⟨CB, hCB⟩ : ∃ C, (adL b.ad).toArray = C := ⟨_, rfl⟩
  obtain ⟨MA, hMA⟩ : ∃ C, (a.mac.map v8).toArray = C := ⟨_, rfl⟩
  obtain ⟨MB, hMB⟩ : ∃ C, (b.mac.map v8).toArray = C := ⟨_, rfl⟩
  have HCA := Lib.hid (show adC a.ad = .agg CA by rw [← hCA]; rfl)
  have HCB := Lib.hid (show adC b.ad = .agg CB by rw [← hCB]; rfl)
  have HMA := Lib.hid hMA
  have HMB := Lib.hid hMB
  rw [hCA, hCB] at he
  rw [hMA, hMB] at hm
  unfold bkC
  obtain ⟨LA, hLA⟩ : ∃ L, (bkL a).toArray = L := ⟨_, rfl⟩
  obtain ⟨LB, hLB⟩ : ∃ L, (bkL b).toArray = L := ⟨_, rfl⟩
  rw [hLA, hLB]
  rw [hLA, hLB] at hY
  obtain ⟨r, hr⟩ : ∃ r, bkQ a b = r := ⟨_, rfl⟩
  rw [hr]
  have hv : r = (decide (a.nm = b.nm) && adB a.ad b.ad && decide (a.port = b.port) && decide (a.mac = b.mac) && decide (a.dr = b.dr) && decide (canW a.wt = canW b.wt)) := hr.symm
  obtain ⟨fa, e1⟩ : ∃ x, adB a.ad b.ad = x := ⟨_, rfl⟩
  obtain ⟨fm, e2⟩ : ∃ x, decide (a.mac = b.mac) = x := ⟨_, rfl⟩
  obtain ⟨fw, e3⟩ : ∃ x, decide (canW a.wt = canW b.wt) = x := ⟨_, rfl⟩
  obtain ⟨da, e4⟩ : ∃ x, a.dr = x := ⟨_, rfl⟩
  obtain ⟨db, e5⟩ : ∃ x, b.dr = x := ⟨_, rfl⟩
  obtain ⟨pa, e6⟩ : ∃ x, a.port = x := ⟨_, rfl⟩
  obtain ⟨pb, e7⟩ : ∃ x, b.port = x := ⟨_, rfl⟩
  rw [e1, e2, e3, e4, e5, e6, e7] at hv
  rw [e1] at he
  rw [e2] at hm
  rw [e3] at hS
  rw [e4] at q5
  rw [e5] at p5
  rw [e6] at q2
  rw [e7] at p2
  rw [← hY] at q0 p0 q2 p2 q4 p4 q5 p5 ra rb ma mb hB
  have HS := Lib.hid hS
  have HRA := Lib.hid ra
  have HRB := Lib.hid rb
  have HRM := Lib.hid ma
  have HRN := Lib.hid mb
  have HE := Lib.hid he
  have HM := Lib.hid hm
  have HV := Lib.hid hv
  have HB := Lib.hid hB
  clear hS ra rb ma mb he hm hv hB hY ka kb hr hLA hLB hCA hCB hMA hMB e1 e2 e3 e4 e5 e6 e7
  by_cases hn : a.nm = b.nm
  · have hq : (a.nm == b.nm) = true := beq_iff_eq.2 hn
    rw [decide_eq_true hn] at HV
    clear hn
    cases fa
    · clear q2 p2 q4 p4 q5 p5
      go_enter Try.func22, Try.ntmps22
      go_wp2_with (first | ((with_reducible show wpList _ _ _ (⟨some 12, _, _, _, _, _⟩ :: _) _ _); refine wpList_loadAdU (op := ⟨some 12, _, _, _, _, _⟩) _ rfl (by rfl) w.heap.size 1 (by rfl) a.ad H1.out HRA.out _ HCA.out ?_) | ((with_reducible show wpList _ _ _ (⟨some 14, _, _, _, _, _⟩ :: _) _ _); refine wpList_loadAdU (op := ⟨some 14, _, _, _, _, _⟩) _ rfl (by rfl) (w.heap.size + 1) 1 (by rfl) b.ad H2.out HRB.out _ HCB.out ?_) | ((with_reducible show wpList _ _ _ (⟨some 15, _, _, _, _, _⟩ :: _) _ _); refine wpList_eqlU (op := ⟨some 15, _, _, _, _, _⟩) 32 _ _ _ rfl (by rfl) CA CB (by rfl) (by rfl) guardA _ HE.out ?_) | ((with_reducible show wpList _ _ _ (⟨some 26, _, _, _, _, _⟩ :: _) _ _); refine wpList_loadMU (op := ⟨some 26, _, _, _, _, _⟩) _ rfl (by rfl) w.heap.size 19 (by rfl) a.mac H3.out HRM.out _ HMA.out ?_) | ((with_reducible show wpList _ _ _ (⟨some 28, _, _, _, _, _⟩ :: _) _ _); refine wpList_loadMU (op := ⟨some 28, _, _, _, _, _⟩) _ rfl (by rfl) (w.heap.size + 1) 19 (by rfl) b.mac H4.out HRN.out _ HMB.out ?_) | ((with_reducible show wpList _ _ _ (⟨some 29, _, _, _, _, _⟩ :: _) _ _); refine wpList_eqlU (op := ⟨some 29, _, _, _, _, _⟩) 33 _ _ _ rfl (by rfl) MA MB (by rfl) (by rfl) guardM _ HM.out ?_))
      go_ret
      exact ⟨by rw [HV.out]; simp [*], HB.out⟩
    · by_cases hp : pa = pb
      · have hp2 : (pa == pb) = true := beq_iff_eq.2 hp
        rw [decide_eq_true hp] at HV
        clear hp
        cases fm
        · clear q4 p4 q5 p5
          go_enter Try.func22, Try.ntmps22
          go_wp2_with (first | ((with_reducible show wpList _ _ _ (⟨some 12, _, _, _, _, _⟩ :: _) _ _); refine wpList_loadAdU (op := ⟨some 12, _, _, _, _, _⟩) _ rfl (by rfl) w.heap.size 1 (by rfl) a.ad H1.out HRA.out _ HCA.out ?_) | ((with_reducible show wpList _ _ _ (⟨some 14, _, _, _, _, _⟩ :: _) _ _); refine wpList_loadAdU (op := ⟨some 14, _, _, _, _, _⟩) _ rfl (by rfl) (w.heap.size + 1) 1 (by rfl) b.ad H2.out HRB.out _ HCB.out ?_) | ((with_reducible show wpList _ _ _ (⟨some 15, _, _, _, _, _⟩ :: _) _ _); refine wpList_eqlU (op := ⟨some 15, _, _, _, _, _⟩) 32 _ _ _ rfl (by rfl) CA CB (by rfl) (by rfl) guardA _ HE.out ?_) | ((with_reducible show wpList _ _ _ (⟨some 26, _, _, _, _, _⟩ :: _) _ _); refine wpList_loadMU (op := ⟨some 26, _, _, _, _, _⟩) _ rfl (by rfl) w.heap.size 19 (by rfl) a.mac H3.out HRM.out _ HMA.out ?_) | ((with_reducible show wpList _ _ _ (⟨some 28, _, _, _, _, _⟩ :: _) _ _); refine wpList_loadMU (op := ⟨some 28, _, _, _, _, _⟩) _ rfl (by rfl) (w.heap.size + 1) 19 (by rfl) b.mac H4.out HRN.out _ HMB.out ?_) | ((with_reducible show wpList _ _ _ (⟨some 29, _, _, _, _, _⟩ :: _) _ _); refine wpList_eqlU (op := ⟨some 29, _, _, _, _, _⟩) 33 _ _ _ rfl (by rfl) MA MB (by rfl) (by rfl) guardM _ HM.out ?_))
          go_ret
          exact ⟨by rw [HV.out]; simp [*], HB.out⟩
        · cases da <;> cases db
          · skip
            go_enter Try.func22, Try.ntmps22
            go_wp2_with (first | ((with_reducible show wpList _ _ _ (⟨some 12, _, _, _, _, _⟩ :: _) _ _); refine wpList_loadAdU (op := ⟨some 12, _, _, _, _, _⟩) _ rfl (by rfl) w.heap.size 1 (by rfl) a.ad H1.out HRA.out _ HCA.out ?_) | ((with_reducible show wpList _ _ _ (⟨some 14, _, _, _, _, _⟩ :: _) _ _); refine wpList_loadAdU (op := ⟨some 14, _, _, _, _, _⟩) _ rfl (by rfl) (w.heap.size + 1) 1 (by rfl) b.ad H2.out HRB.out _ HCB.out ?_) | ((with_reducible show wpList _ _ _ (⟨some 15, _, _, _, _, _⟩ :: _) _ _); refine wpList_eqlU (op := ⟨some 15, _, _, _, _, _⟩) 32 _ _ _ rfl (by rfl) CA CB (by rfl) (by rfl) guardA _ HE.out ?_) | ((with_reducible show wpList _ _ _ (⟨some 26, _, _, _, _, _⟩ :: _) _ _); refine wpList_loadMU (op := ⟨some 26, _, _, _, _, _⟩) _ rfl (by rfl) w.heap.size 19 (by rfl) a.mac H3.out HRM.out _ HMA.out ?_) | ((with_reducible show wpList _ _ _ (⟨some 28, _, _, _, _, _⟩ :: _) _ _); refine wpList_loadMU (op := ⟨some 28, _, _, _, _, _⟩) _ rfl (by rfl) (w.heap.size + 1) 19 (by rfl) b.mac H4.out HRN.out _ HMB.out ?_) | ((with_reducible show wpList _ _ _ (⟨some 29, _, _, _, _, _⟩ :: _) _ _); refine wpList_eqlU (op := ⟨some 29, _, _, _, _, _⟩) 33 _ _ _ rfl (by rfl) MA MB (by rfl) (by rfl) guardM _ HM.out ?_))
            refine (HS.out _).mono ?_
            rintro e w2 ⟨rfl, h2⟩
            have HB2 := Lib.hid (HB.out.trans (h2.mono HB.out.size))
            clear h2
            go_wp2_with fail
            go_ret
            exact ⟨by rw [HV.out]; simp [*], HB2.out⟩
          · skip
            go_enter Try.func22, Try.ntmps22
            go_wp2_with (first | ((with_reducible show wpList _ _ _ (⟨some 12, _, _, _, _, _⟩ :: _) _ _); refine wpList_loadAdU (op := ⟨some 12, _, _, _, _, _⟩) _ rfl (by rfl) w.heap.size 1 (by rfl) a.ad H1.out HRA.out _ HCA.out ?_) | ((with_reducible show wpList _ _ _ (⟨some 14, _, _, _, _, _⟩ :: _) _ _); refine wpList_loadAdU (op := ⟨some 14, _, _, _, _, _⟩) _ rfl (by rfl) (w.heap.size + 1) 1 (by rfl) b.ad H2.out HRB.out _ HCB.out ?_) | ((with_reducible show wpList _ _ _ (⟨some 15, _, _, _, _, _⟩ :: _) _ _); refine wpList_eqlU (op := ⟨some 15, _, _, _, _, _⟩) 32 _ _ _ rfl (by rfl) CA CB (by rfl) (by rfl) guardA _ HE.out ?_) | ((with_reducible show wpList _ _ _ (⟨some 26, _, _, _, _, _⟩ :: _) _ _); refine wpList_loadMU (op := ⟨some 26, _, _, _, _, _⟩) _ rfl (by rfl) w.heap.size 19 (by rfl) a.mac H3.out HRM.out _ HMA.out ?_) | ((with_reducible show wpList _ _ _ (⟨some 28, _, _, _, _, _⟩ :: _) _ _); refine wpList_loadMU (op := ⟨some 28, _, _, _, _, _⟩) _ rfl (by rfl) (w.heap.size + 1) 19 (by rfl) b.mac H4.out HRN.out _ HMB.out ?_) | ((with_reducible show wpList _ _ _ (⟨some 29, _, _, _, _, _⟩ :: _) _ _); refine wpList_eqlU (op := ⟨some 29, _, _, _, _, _⟩) 33 _ _ _ rfl (by rfl) MA MB (by rfl) (by rfl) guardM _ HM.out ?_))
            go_ret
            exact ⟨by rw [HV.out]; simp [*], HB.out⟩
          · skip
            go_enter Try.func22, Try.ntmps22
            go_wp2_with (first | ((with_reducible show wpList _ _ _ (⟨some 12, _, _, _, _, _⟩ :: _) _ _); refine wpList_loadAdU (op := ⟨some 12, _, _, _, _, _⟩) _ rfl (by rfl) w.heap.size 1 (by rfl) a.ad H1.out HRA.out _ HCA.out ?_) | ((with_reducible show wpList _ _ _ (⟨some 14, _, _, _, _, _⟩ :: _) _ _); refine wpList_loadAdU (op := ⟨some 14, _, _, _, _, _⟩) _ rfl (by rfl) (w.heap.size + 1) 1 (by rfl) b.ad H2.out HRB.out _ HCB.out ?_) | ((with_reducible show wpList _ _ _ (⟨some 15, _, _, _, _, _⟩ :: _) _ _); refine wpList_eqlU (op := ⟨some 15, _, _, _, _, _⟩) 32 _ _ _ rfl (by rfl) CA CB (by rfl) (by rfl) guardA _ HE.out ?_) | ((with_reducible show wpList _ _ _ (⟨some 26, _, _, _, _, _⟩ :: _) _ _); refine wpList_loadMU (op := ⟨some 26, _, _, _, _, _⟩) _ rfl (by rfl) w.heap.size 19 (by rfl) a.mac H3.out HRM.out _ HMA.out ?_) | ((with_reducible show wpList _ _ _ (⟨some 28, _, _, _, _, _⟩ :: _) _ _); refine wpList_loadMU (op := ⟨some 28, _, _, _, _, _⟩) _ rfl (by rfl) (w.heap.size + 1) 19 (by rfl) b.mac H4.out HRN.out _ HMB.out ?_) | ((with_reducible show wpList _ _ _ (⟨some 29, _, _, _, _, _⟩ :: _) _ _); refine wpList_eqlU (op := ⟨some 29, _, _, _, _, _⟩) 33 _ _ _ rfl (by rfl) MA MB (by rfl) (by rfl) guardM _ HM.out ?_))
            go_ret
            exact ⟨by rw [HV.out]; simp [*], HB.out⟩
          · skip
            go_enter Try.func22, Try.ntmps22
            go_wp2_with (first | ((with_reducible show wpList _ _ _ (⟨some 12, _, _, _, _, _⟩ :: _) _ _); refine wpList_loadAdU (op := ⟨some 12, _, _, _, _, _⟩) _ rfl (by rfl) w.heap.size 1 (by rfl) a.ad H1.out HRA.out _ HCA.out ?_) | ((with_reducible show wpList _ _ _ (⟨some 14, _, _, _, _, _⟩ :: _) _ _); refine wpList_loadAdU (op := ⟨some 14, _, _, _, _, _⟩) _ rfl (by rfl) (w.heap.size + 1) 1 (by rfl) b.ad H2.out HRB.out _ HCB.out ?_) | ((with_reducible show wpList _ _ _ (⟨some 15, _, _, _, _, _⟩ :: _) _ _); refine wpList_eqlU (op := ⟨some 15, _, _, _, _, _⟩) 32 _ _ _ rfl (by rfl) CA CB (by rfl) (by rfl) guardA _ HE.out ?_) | ((with_reducible show wpList _ _ _ (⟨some 26, _, _, _, _, _⟩ :: _) _ _); refine wpList_loadMU (op := ⟨some 26, _, _, _, _, _⟩) _ rfl (by rfl) w.heap.size 19 (by rfl) a.mac H3.out HRM.out _ HMA.out ?_) | ((with_reducible show wpList _ _ _ (⟨some 28, _, _, _, _, _⟩ :: _) _ _); refine wpList_loadMU (op := ⟨some 28, _, _, _, _, _⟩) _ rfl (by rfl) (w.heap.size + 1) 19 (by rfl) b.mac H4.out HRN.out _ HMB.out ?_) | ((with_reducible show wpList _ _ _ (⟨some 29, _, _, _, _, _⟩ :: _) _ _); refine wpList_eqlU (op := ⟨some 29, _, _, _, _, _⟩) 33 _ _ _ rfl (by rfl) MA MB (by rfl) (by rfl) guardM _ HM.out ?_))
            refine (HS.out _).mono ?_
            rintro e w2 ⟨rfl, h2⟩
            have HB2 := Lib.hid (HB.out.trans (h2.mono HB.out.size))
            clear h2
            go_wp2_with fail
            go_ret
            exact ⟨by rw [HV.out]; simp [*], HB2.out⟩
      · have hp2 : (pa == pb) = false := beq_eq_false_iff_ne.2 hp
        rw [decide_eq_false hp] at HV
        clear hp q4 p4 q5 p5
        go_enter Try.func22, Try.ntmps22
        go_wp2_with (first | ((with_reducible show wpList _ _ _ (⟨some 12, _, _, _, _, _⟩ :: _) _ _); refine wpList_loadAdU (op := ⟨some 12, _, _, _, _, _⟩) _ rfl (by rfl) w.heap.size 1 (by rfl) a.ad H1.out HRA.out _ HCA.out ?_) | ((with_reducible show wpList _ _ _ (⟨some 14, _, _, _, _, _⟩ :: _) _ _); refine wpList_loadAdU (op := ⟨some 14, _, _, _, _, _⟩) _ rfl (by rfl) (w.heap.size + 1) 1 (by rfl) b.ad H2.out HRB.out _ HCB.out ?_) | ((with_reducible show wpList _ _ _ (⟨some 15, _, _, _, _, _⟩ :: _) _ _); refine wpList_eqlU (op := ⟨some 15, _, _, _, _, _⟩) 32 _ _ _ rfl (by rfl) CA CB (by rfl) (by rfl) guardA _ HE.out ?_) | ((with_reducible show wpList _ _ _ (⟨some 26, _, _, _, _, _⟩ :: _) _ _); refine wpList_loadMU (op := ⟨some 26, _, _, _, _, _⟩) _ rfl (by rfl) w.heap.size 19 (by rfl) a.mac H3.out HRM.out _ HMA.out ?_) | ((with_reducible show wpList _ _ _ (⟨some 28, _, _, _, _, _⟩ :: _) _ _); refine wpList_loadMU (op := ⟨some 28, _, _, _, _, _⟩) _ rfl (by rfl) (w.heap.size + 1) 19 (by rfl) b.mac H4.out HRN.out _ HMB.out ?_) | ((with_reducible show wpList _ _ _ (⟨some 29, _, _, _, _, _⟩ :: _) _ _); refine wpList_eqlU (op := ⟨some 29, _, _, _, _, _⟩) 33 _ _ _ rfl (by rfl) MA MB (by rfl) (by rfl) guardM _ HM.out ?_))
        go_ret
        exact ⟨by rw [HV.out]; simp [*], HB.out⟩
  · have hq : (a.nm == b.nm) = false := beq_eq_false_iff_ne.2 hn
    rw [decide_eq_false hn] at HV
    clear hn q2 p2 q4 p4 q5 p5
    go_enter Try.func22, Try.ntmps22
    go_wp2_with (first | ((with_reducible show wpList _ _ _ (⟨some 12, _, _, _, _, _⟩ :: _) _ _); refine wpList_loadAdU (op := ⟨some 12, _, _, _, _, _⟩) _ rfl (by rfl) w.heap.size 1 (by rfl) a.ad H1.out HRA.out _ HCA.out ?_) | ((with_reducible show wpList _ _ _ (⟨some 14, _, _, _, _, _⟩ :: _) _ _); refine wpList_loadAdU (op := ⟨some 14, _, _, _, _, _⟩) _ rfl (by rfl) (w.heap.size + 1) 1 (by rfl) b.ad H2.out HRB.out _ HCB.out ?_) | ((with_reducible show wpList _ _ _ (⟨some 15, _, _, _, _, _⟩ :: _) _ _); refine wpList_eqlU (op := ⟨some 15, _, _, _, _, _⟩) 32 _ _ _ rfl (by rfl) CA CB (by rfl) (by rfl) guardA _ HE.out ?_) | ((with_reducible show wpList _ _ _ (⟨some 26, _, _, _, _, _⟩ :: _) _ _); refine wpList_loadMU (op := ⟨some 26, _, _, _, _, _⟩) _ rfl (by rfl) w.heap.size 19 (by rfl) a.mac H3.out HRM.out _ HMA.out ?_) | ((with_reducible show wpList _ _ _ (⟨some 28, _, _, _, _, _⟩ :: _) _ _); refine wpList_loadMU (op := ⟨some 28, _, _, _, _, _⟩) _ rfl (by rfl) (w.heap.size + 1) 19 (by rfl) b.mac H4.out HRN.out _ HMB.out ?_) | ((with_reducible show wpList _ _ _ (⟨some 29, _, _, _, _, _⟩ :: _) _ _); refine wpList_eqlU (op := ⟨some 29, _, _, _, _, _⟩) 33 _ _ _ rfl (by rfl) MA MB (by rfl) (by rfl) guardM _ HM.out ?_))
    go_ret
    exact ⟨by rw [HV.out]; simp [*], HB.out⟩
end Go.Proofs.Ytajmppaodhpmgaa
