/-
  tunnel.packetOf: a frame's link, and what counts of its IP packet.
-/
import Derived.Test.YtomkfcpellcncaaTCell
import Derived.Deep.DeepCutAuto
namespace Go.Proofs.Ytomkfcpellcncaa
set_option maxRecDepth 100000
open Go.RowKit Go.Lib

theorem built_lk0 : Try.prog.built 41 [] = some (lkL Lk.zero (.slice none 0 0)).toArray := by kernel_rfl
/-- A block known whole is stored anew; the world behind it a letter. -/
theorem wpList_storeRG {w : World} {ops : Array Oper} {rest : List Oper} {op : Oper} {a : Act} {Q : Exit → Act → World → Prop} (hgd : op.guard = none) (T : TypeId) (x y : Operand) (ho : op.op = .store T x y)
    (g : Nat) (hx : a.eval x = .pointer (some ⟨g, 0, none⟩)) (cs : List Value) (hy : a.eval y = .agg cs.toArray) (old : List Value) (hb : Blk w T g old) (hl : old.length = cs.length)
    (hi : (Try.prog.info? T).map (·.size) = some cs.length) (h1 : ∀ v ∈ cs, v.oneCell' = true)
    (h : ∀ w', Blk w' T g cs → (∀ k, k ≠ g → w'.heap[k]? = w.heap[k]?) → Below g w w' → wpList Try.prog ops Q rest (a.put op.dst undef) w') : wpList Try.prog ops Q (op :: rest) a w :=
  wpList_storeR_10 hgd T x y ho g hx cs hy old hb hl hi h1 (h _ (Blk_10.setRow_ hb cs) (fun k hk => setRow_other w g k cs.toArray hk) (below_setRow (Below.refl g w) (Nat.le_refl _) _))
theorem step_storeRG {w : World} {ops : Array Oper} {op : Oper} {a : Act} {K : Act → World → Prop} {Q : Exit → Act → World → Prop} {E : Prop} (hgd : op.guard = none) (T : TypeId) (x y : Operand) (ho : op.op = .store T x y)
    (g : Nat) (hx : a.eval x = .pointer (some ⟨g, 0, none⟩)) (cs : List Value) (hy : a.eval y = .agg cs.toArray) (old : List Value) (hb : Blk w T g old) (hl : old.length = cs.length)
    (hi : (Try.prog.info? T).map (·.size) = some cs.length) (h1 : ∀ v ∈ cs, v.oneCell' = true)
    (h : ∀ w', Blk w' T g cs → (∀ k, k ≠ g → w'.heap[k]? = w.heap[k]?) → Below g w w' → K (a.put op.dst undef) w') : if Region.wanted op (yielded ops a.tmps) = true then Oper.wp Try.prog op a w K Q else E :=
  step_storeR_10 hgd T x y ho g hx cs hy old hb hl hi h1 (h _ (Blk_10.setRow_ hb cs) (fun k hk => setRow_other w g k cs.toArray hk) (below_setRow (Below.refl g w) (Nat.le_refl _) _))
/-- One block changes, no other one. -/
theorem gb_of {w w' : World} {g : Nat} (hn : ∀ k, k ≠ g → w'.heap[k]? = w.heap[k]?) (hb : Below g w w') : w.grownBy w' (some g) :=
  ⟨hb.os, hb.tape, hb.output, hb.size, fun k _ hk => hn k (fun e => hk (by rw [e]))⟩
theorem own_ne {v : Value} {G : Nat} (h : ∀ g, v.ownBlock = some g → g < G) : v.ownBlock = none ∨ v.ownBlock ≠ some G := by
  cases hu : v.ownBlock with
  | none => exact .inl rfl
  | some k => exact .inr (fun e => by have := h k hu; cases e; omega)
/-- What packetOf answers. -/
def PkGave (w : World) (xs : List UInt8) (e : Ending) (w' : World) : Prop :=
  ((fN xs).e ≠ 0 → ∃ L At mt ct, L.Six ∧ e = .returned (.tuple #[lkC L (.slice At mt ct), .agg ip0.toArray, .bool false])) ∧
  ((fN xs).e = 0 → ∃ At mt ct A1 c1 A2 c2, e = .returned (.tuple #[lkC (rdOf xs).1 (.slice At mt ct), .agg (ipL (rdOf xs).1.ty (asN (rdOf xs).1.ty) (.slice A1 (fN xs).total c1) (.slice A2 ((fN xs).total - (fN xs).head) c2) ((fN xs).proto : Int) (fN xs).frag).toArray, .bool true]) ∧
    OwnT w' w.heap.size (.slice At mt ct) (rdOf xs).1.ts ∧ SlR w A1 (fN xs).total c1 (packK xs) ∧ SlR w A2 ((fN xs).total - (fN xs).head) c2 (inL xs)) ∧ Below w.heap.size w w'

set_option maxHeartbeats 8000000 in
theorem tpack_no (A : Option Addr) (len cap : Nat) (xs : List UInt8) (hlen : len ≤ 1000000) (hcap : len ≤ cap) (hcm : cap ≤ maxLen) (h0 : (rdOf xs).2 ≠ 0) (w : World) (hI : Rd w w.heap.size A len xs) :
    Calls Try.prog 19 #[.slice A len cap] w fun e w' => e = .returned (.tuple #[lkC Lk.zero (.slice none 0 0), .agg ip0.toArray, .bool false]) ∧ Below w.heap.size w w' := by
  obtain ⟨Z, hZ⟩ : ∃ Z : World, (w.alloc (.cells (lkL Lk.zero (.slice none 0 0)).toArray 41)).alloc (.cells ip0.toArray 54) = Z := ⟨_, rfl⟩
  have HQ := Lib.hid (show Blk Z 41 w.heap.size (lkL Lk.zero (.slice none 0 0)) by rw [← hZ]; exact (Blk_10.new w _ _).alloc _)
  have HP := Lib.hid (show Blk Z 54 (w.heap.size + 1) ip0 by
    rw [← hZ]
    have := Blk_10.new (w.alloc (.cells (lkL Lk.zero (.slice none 0 0)).toArray 41)) 54 ip0
    rwa [World.size_alloc] at this)
  have HB := Lib.hid (show Below w.heap.size w Z by rw [← hZ]; exact ((Below.refl w.heap.size w).alloc (Nat.le_refl _) _).alloc (by simp) _)
  have HZS := Lib.hid (show Z.heap.size = w.heap.size + 1 + 1 by rw [← hZ, World.size_alloc, World.size_alloc])
  rw [← zeroIp, ← zeroLk] at hZ
  have HZ := Lib.hid hZ
  have hR := read_any_7 A len cap xs hlen hcap hcm Z ((hI.below HB.out).more HB.out.size)
  unfold ReadGave_7 at hR
  have H6 := Lib.hid ((rdOf_six xs (rdOf xs).1 (rdOf xs).2 rfl).1)
  obtain ⟨L, hL⟩ : ∃ L, (rdOf xs).1 = L := ⟨_, rfl⟩
  obtain ⟨E, hE⟩ : ∃ E, (rdOf xs).2 = E := ⟨_, rfl⟩
  rw [hL, hE] at hR
  rw [hL] at H6
  rw [hE] at h0
  have bE : ((E : Int) == 0) = false := by simp; omega
  have bE2 : (E == 0) = false := by simp [h0]
  have bE3 : ((E : Int) != 0) = true := by simp; omega
  have HR := Lib.hid hR
  clear hZ hR hL hE hI h0
  go_enter Try.func19, Try.ntmps19
  go_wp2_with fail
  rw [HZ.out]
  refine HR.out.mono ?_
  rintro e w4 ⟨tv, rfl, hown, hb4⟩
  obtain ⟨At, mt, ct, rfl, q1, q2, q3, q4, q5⟩ := hown.sl
  have HT4 := Lib.hid hown
  have HB4 := Lib.hid (HB.out.trans (hb4.mono HB.out.size))
  have HQ4 := Lib.hid (HQ.out.below HQ.out.lt hb4)
  have HP4 := Lib.hid (HP.out.below HP.out.lt hb4)
  clear hb4 hown q1 q2 q3 q4 q5
  go_wp2_with (first
    | ((with_reducible show wpList _ _ _ (⟨none, .store 41 (.tmp 5) (.tmp 12), _, _, _, _⟩ :: _) _ _); refine wpList_storeNewG (op := ⟨none, .store 41 (.tmp 5) (.tmp 12), _, _, _, _⟩) rfl 41 _ _ rfl (by rfl) (lkL L (.slice At mt ct)) (by rfl) (by rw [lkL_len H6.out]; rfl) (sizeLkL H6.out _) (lkL_one L _ rfl) ?_; intro w5 hl5 hb5 hz5; clear hz5; have HB5 := Lib.hid (HB4.out.trans (hb5.mono HB4.out.size)); have HQ5 := Lib.hid (HQ4.out.below HQ4.out.lt hb5); have HP5 := Lib.hid (HP4.out.below HP4.out.lt hb5); have HT5 := Lib.hid (HT4.out.below hb5); have HK5 := Lib.hid hl5; have HG1 := Lib.hid HP4.out.lt; clear hl5 hb5; generalize w4.heap.size = G1 at HK5 HG1 ⊢)
    | ((with_reducible show wpList _ _ _ (⟨some 16, _, _, _, _, _⟩ :: _) _ _); refine wpList_buildw (op := ⟨some 16, _, _, _, _, _⟩) 41 _ rfl (by rfl) _ (by kernel_rfl) (lkL Lk.zero (.slice none 0 0)).toArray built_lk0 ?_)
    | ((with_reducible show wpList _ _ _ (⟨some 17, _, _, _, _, _⟩ :: _) _ _); refine wpList_buildw (op := ⟨some 17, _, _, _, _, _⟩) 54 _ rfl (by rfl) _ (by kernel_rfl) ip0.toArray built_ip0 ?_)
    | ((with_reducible show wpList _ _ _ (⟨none, .store 41 (.tmp 2) _, _, _, _, _⟩ :: _) _ _); refine wpList_storeRG rfl 41 (.tmp 2) _ rfl w.heap.size (by rfl) (lkL Lk.zero (.slice none 0 0)) (by rfl) _ HQ5.out (by rw [lkL_len Lk.six_zero]) (sizeLkL Lk.six_zero _) (lkL_one _ _ rfl) ?_; intro w6 hq6 hn6 hb6; have HQ6 := Lib.hid hq6; have HP6 := Lib.hid (show Blk w6 54 (w.heap.size + 1) ip0 from (hn6 _ (Nat.succ_ne_self _)).trans HP5.out); have HB6 := Lib.hid (HB5.out.trans hb6); clear hq6 hn6 hb6)
    | ((with_reducible show wpList _ _ _ (⟨none, .store 54 (.tmp 3) _, _, _, _, _⟩ :: _) _ _); refine wpList_storeRG rfl 54 (.tmp 3) _ rfl (w.heap.size + 1) (by rfl) ip0 (by rfl) _ HP6.out rfl sizeIp ip0_one ?_; intro w7 hp7 hn7 hb7; have HP7 := Lib.hid hp7; have HQ7 := Lib.hid (show Blk w7 41 w.heap.size _ from (hn7 _ (Nat.ne_of_lt (Nat.lt_succ_self _))).trans HQ6.out); have HB7 := Lib.hid (HB6.out.trans (hb7.mono (Nat.le_succ _))); clear hp7 hn7 hb7))
  refine bodyPost_ret (v := .tuple #[lkC Lk.zero (.slice none 0 0), .agg ip0.toArray, .bool false]) (results_lkip rfl _ _ w.heap.size (by rfl) _ Lk.six_zero _ HQ7.out (w.heap.size + 1) (by rfl) ip0 rfl HP7.out _ (by rfl)) rfl ?_
  exact ⟨rfl, HB7.out⟩

set_option maxHeartbeats 8000000 in
theorem tpack_tyx (A : Option Addr) (len cap : Nat) (xs : List UInt8) (hlen : len ≤ 1000000) (hcap : len ≤ cap) (hcm : cap ≤ maxLen) (h0 : (rdOf xs).2 = 0) (h4 : (rdOf xs).1.ty ≠ 2048) (h6 : (rdOf xs).1.ty ≠ 34525) (w : World) (hI : Rd w w.heap.size A len xs) :
    Calls Try.prog 19 #[.slice A len cap] w fun e w' => PkGave w xs e w' := by
  obtain ⟨Z, hZ⟩ : ∃ Z : World, (w.alloc (.cells (lkL Lk.zero (.slice none 0 0)).toArray 41)).alloc (.cells ip0.toArray 54) = Z := ⟨_, rfl⟩
  have HQ := Lib.hid (show Blk Z 41 w.heap.size (lkL Lk.zero (.slice none 0 0)) by rw [← hZ]; exact (Blk_10.new w _ _).alloc _)
  have HP := Lib.hid (show Blk Z 54 (w.heap.size + 1) ip0 by
    rw [← hZ]
    have := Blk_10.new (w.alloc (.cells (lkL Lk.zero (.slice none 0 0)).toArray 41)) 54 ip0
    rwa [World.size_alloc] at this)
  have HB := Lib.hid (show Below w.heap.size w Z by rw [← hZ]; exact ((Below.refl w.heap.size w).alloc (Nat.le_refl _) _).alloc (by simp) _)
  have HZS := Lib.hid (show Z.heap.size = w.heap.size + 1 + 1 by rw [← hZ, World.size_alloc, World.size_alloc])
  rw [← zeroIp, ← zeroLk] at hZ
  have HZ := Lib.hid hZ
  have hR := read_any_7 A len cap xs hlen hcap hcm Z ((hI.below HB.out).more HB.out.size)
  unfold ReadGave_7 at hR
  have H6 := Lib.hid ((rdOf_six xs (rdOf xs).1 (rdOf xs).2 rfl).1)
  have hfN := fN_yes h0
  obtain ⟨a1, a2, a3, a4, _⟩ := atK_ok h0
  have hpk : packK xs = (xs.drop (atK xs)).take (fN xs).total := rfl
  have hin : inL xs = segN (xs.drop (atK xs)) (fN xs) := rfl
  unfold PkGave
  obtain ⟨p, hp⟩ : ∃ p, atK xs = p := ⟨_, rfl⟩
  obtain ⟨L, hL⟩ : ∃ L, (rdOf xs).1 = L := ⟨_, rfl⟩
  rw [hL, h0] at hR
  rw [hL] at H6 a1 hfN ⊢
  rw [hp] at a1 a2 a3 a4 hfN hpk hin
  rw [hI.len] at a2
  have HRR := Lib.hid (hI.from (l := p) a2 cap hcap)
  have hcut := fun W => run_from8 A len cap p a2 W
  have hdl : (xs.drop p).length = len - p := by rw [List.length_drop, hI.len]
  obtain ⟨RA, hRA⟩ : ∃ R, cutA A cap p = R := ⟨_, rfl⟩
  obtain ⟨rl, hrl⟩ : ∃ n, len - p = n := ⟨_, rfl⟩
  obtain ⟨rc, hrc⟩ : ∃ n, cap - p = n := ⟨_, rfl⟩
  have HCL := Lib.hid (show rl ≤ rc ∧ rl ≤ 1000000 ∧ rc ≤ maxLen from ⟨by omega, by omega, by omega⟩)
  rw [hrl] at hdl
  rw [hRA, hrl, hrc] at hcut
  rw [hRA, hrl] at HRR
  obtain ⟨rest, hrest⟩ : ∃ r, xs.drop p = r := ⟨_, rfl⟩
  rw [hrest] at HRR hdl hfN hpk hin
  have HCUT := Lib.hid hcut
  have HTY := Lib.hid (fun tv => (lk_ty L H6.out tv).1)
  have HAT := Lib.hid (fun tv => show (lkL L tv)[14]? = some (.int .i64 (p : Int)) from a1 ▸ (lk_ty L H6.out tv).2)
  have HR := Lib.hid hR
  rw [hpk, hin, hfN]
  rw [hL] at h4 h6
  have HN := Lib.hid (ntK_x h4 h6 rest)
  rw [HN.out]
  have b4 : (L.ty == 2048) = false := beq_eq_false_iff_ne.2 h4
  have b6 : (L.ty == 34525) = false := beq_eq_false_iff_ne.2 h6
  clear hZ hR hL hI h0 hfN hpk hin hcut hp hRA hrl hrc hrest hdl a1 a2 a3 a4 h4 h6
  go_enter Try.func19, Try.ntmps19
  go_wp2_with fail
  rw [HZ.out]
  refine HR.out.mono ?_
  rintro e w4 ⟨tv, rfl, hown, hb4⟩
  obtain ⟨At, mt, ct, rfl, q1, q2, q3, q4, q5⟩ := hown.sl
  have HT4 := Lib.hid hown
  have HB4 := Lib.hid (HB.out.trans (hb4.mono HB.out.size))
  have HQ4 := Lib.hid (HQ.out.below HQ.out.lt hb4)
  have HP4 := Lib.hid (HP.out.below HP.out.lt hb4)
  clear hb4 hown q1 q2 q3 q4 q5
  go_upto_region 10 with (first
    | ((with_reducible show wpList _ _ _ (⟨none, .store 41 (.tmp 5) (.tmp 12), _, _, _, _⟩ :: _) _ _); refine wpList_storeNewG (op := ⟨none, .store 41 (.tmp 5) (.tmp 12), _, _, _, _⟩) rfl 41 _ _ rfl (by rfl) (lkL L (.slice At mt ct)) (by rfl) (by rw [lkL_len H6.out]; rfl) (sizeLkL H6.out _) (lkL_one L _ rfl) ?_; intro w5 hl5 hb5 hz5; clear hz5; have HB5 := Lib.hid (HB4.out.trans (hb5.mono HB4.out.size)); have HQ5 := Lib.hid (HQ4.out.below HQ4.out.lt hb5); have HP5 := Lib.hid (HP4.out.below HP4.out.lt hb5); have HT5 := Lib.hid (HT4.out.below hb5); have HK5 := Lib.hid hl5; have HG1 := Lib.hid HP4.out.lt; clear hl5 hb5; generalize w4.heap.size = G1 at HK5 HG1 ⊢)
    | ((with_reducible show wpList _ _ _ (⟨some 18, _, _, _, _, _⟩ :: _) _ _); refine wpList_buildw (op := ⟨some 18, _, _, _, _, _⟩) 54 _ rfl (by rfl) _ (by kernel_rfl) ip0.toArray built_ip0 ?_)
    | ((with_reducible show wpList _ _ _ (⟨none, .store 54 (.tmp 7) (.tmp 18), _, _, _, _⟩ :: _) _ _); refine wpList_storeNewG (op := ⟨none, .store 54 (.tmp 7) (.tmp 18), _, _, _, _⟩) rfl 54 _ _ rfl (by rfl) ip0 (by rfl) (by rfl) sizeIp ip0_one ?_; intro w6 hl6 hb6 hz6; clear hz6; have HB6 := Lib.hid (HB5.out.trans (hb6.mono HB5.out.size)); have HQ6 := Lib.hid (HQ5.out.below HQ5.out.lt hb6); have HP6 := Lib.hid (HP5.out.below HP5.out.lt hb6); have HK6 := Lib.hid (HK5.out.below HK5.out.lt hb6); have HT6 := Lib.hid (HT5.out.below hb6); have HLT := Lib.hid (fun g hg => (HT5.out.lt g hg).2); have HI6 := Lib.hid hl6; have HG2 := Lib.hid HK5.out.lt; have HG3 := Lib.hid HP5.out.lt; have ty6 := Blk_10.cell HK6.out (HTY.out (.slice At mt ct)); have at6 := Blk_10.cell HK6.out (HAT.out (.slice At mt ct)); have hcut := HCUT.out; clear hl6 hb6; generalize w5.heap.size = G2 at HI6 HG2 HG3 HLT ⊢))
  obtain ⟨cs, hcs⟩ : ∃ cs, ip0 = cs := ⟨_, rfl⟩
  have HCS := Lib.hid (show cs.length = 6 by rw [← hcs]; rfl)
  have HON := Lib.hid (show ∀ v ∈ cs, v.oneCell' = true by rw [← hcs]; exact ip0_one)
  rw [hcs] at HI6 ⊢
  clear ty6 at6 hcut
  refine wp_region_held_drew (S := fun W => (Blk W 41 G1 (lkL L (.slice At mt ct)) ∧ Blk W 54 G2 cs) ∧ Below w.heap.size w W) (by kernel_rfl) (⟨⟨Blk_10.drew HK6.out, Blk_10.drew HI6.out⟩, HB6.out.drew⟩) (fun hHeld => ?_)
  obtain ⟨X, hX⟩ : ∃ X, w6.drew = X := ⟨_, rfl⟩
  have HQX := Lib.hid (show Blk X 41 w.heap.size _ by rw [← hX]; exact Blk_10.drew HQ6.out)
  have HPX := Lib.hid (show Blk X 54 (w.heap.size + 1) _ by rw [← hX]; exact Blk_10.drew HP6.out)
  have HTX := Lib.hid (show OwnT X Z.heap.size _ _ by rw [← hX]; exact OwnT.drew HT6.out)
  rw [hX] at hHeld ⊢
  clear hX
  refine tkY 0 41 (lkC L (.slice At mt ct)) rfl (yieldsIf_load_mid (by rfl) 41 _ rfl G1 0 rfl (lkL L (.slice At mt ct)) _ (fun W hW => Blk_10.range hW.1.1) Try.underlying41 rfl (sizeLkL H6.out _)) hHeld ?_
  simp only [Act.put, sA, sZ, sS]
  refine tkY 1 42 (.agg cs.toArray) rfl (yieldsIf_load_mid (by rfl) 54 _ rfl G2 0 rfl cs _ (fun W hW => Blk_10.range hW.1.2) Try.underlying54 rfl (by rw [HCS.out]; exact sizeIp)) hHeld ?_
  simp only [Act.put, sA, sZ, sS]
  refine tk 2 43 (.bool false) rfl hHeld ?_
  simp only [Act.put, sA, sZ, sS]
  refine wpAnyH_ready (rs := [3]) (by kernel_rfl) (by simp) (AllReadyH.cons (o := ⟨none, _, _, _, _, _⟩) rfl (fun K hK => ?_) AllReadyH.nil)
  refine step_storeRG rfl 41 _ _ rfl w.heap.size (by rfl) (lkL L (.slice At mt ct)) (by rfl) _ HQX.out (by rw [lkL_len Lk.six_zero, lkL_len H6.out]) (sizeLkL H6.out _) (lkL_one L _ rfl) ?_
  intro Y hqy hny hby
  have HQY := Lib.hid hqy
  have HPY := Lib.hid (show Blk Y 54 (w.heap.size + 1) _ from (hny _ (Nat.succ_ne_self _)).trans HPX.out)
  have HTY := Lib.hid (HTX.out.kept1 (gb_of hny hby) (Nat.lt_of_lt_of_eq (Nat.lt_succ_of_lt (Nat.lt_succ_self _)) HZS.out.symm))
  refine hK.out _ _ (⟨⟨(hny _ (Nat.ne_of_gt (Nat.lt_trans (Nat.lt_succ_self _) HG1.out))).trans hHeld.1.1, (hny _ (Nat.ne_of_gt (Nat.lt_trans (Nat.lt_succ_self _) HG3.out))).trans hHeld.1.2⟩, hHeld.2.trans (hby.mono (Nat.le_refl _))⟩) (fun hHeld => ?_)
  clear hK K hqy hny hby
  refine wpAnyH_ready (rs := [4]) (by kernel_rfl) (by simp) (AllReadyH.cons (o := ⟨none, _, _, _, _, _⟩) rfl (fun K hK => ?_) AllReadyH.nil)
  refine step_storeRG rfl 54 _ _ rfl (w.heap.size + 1) (by rfl) cs (by rfl) _ HPY.out (by rw [HCS.out]; rfl) (by rw [HCS.out]; exact sizeIp) HON.out ?_
  intro V hpv hnv hbv
  have HPZ := Lib.hid hpv
  have HQZ := Lib.hid (show Blk V 41 w.heap.size _ from (hnv _ (Nat.ne_of_lt (Nat.lt_succ_self _))).trans HQY.out)
  have HTZ := Lib.hid (HTY.out.kept1 (gb_of hnv hbv) (Nat.lt_of_lt_of_eq (Nat.lt_succ_self _) HZS.out.symm))
  refine hK.out _ _ (⟨⟨(hnv _ (Nat.ne_of_gt HG1.out)).trans hHeld.1.1, (hnv _ (Nat.ne_of_gt HG3.out)).trans hHeld.1.2⟩, hHeld.2.trans (hbv.mono (Nat.le_succ _))⟩) (fun hHeld => ?_)
  clear hK K hpv hnv hbv
  refine tk 5 4 (.bool false) rfl hHeld ?_
  simp only [Act.put, sA, sZ, sS]
  refine wpAnyH_done (by kernel_rfl) ?_ _
  go_wp2_with fail
  refine bodyPost_ret (v := .tuple #[lkC L (.slice At mt ct), .agg cs.toArray, .bool false]) (results_lkip rfl _ _ w.heap.size (by rfl) _ H6.out _ HQZ.out (w.heap.size + 1) (by rfl) cs HCS.out HPZ.out _ (by rfl)) rfl ?_
  refine ⟨fun _ => ⟨L, At, mt, ct, H6.out, by rw [hcs]⟩, fun hn => ?_, hHeld.2⟩
  cases hn

set_option maxHeartbeats 8000000 in
theorem tpack_ty4 (A : Option Addr) (len cap : Nat) (xs : List UInt8) (hlen : len ≤ 1000000) (hcap : len ≤ cap) (hcm : cap ≤ maxLen) (h0 : (rdOf xs).2 = 0) (hty : (rdOf xs).1.ty = 2048) (w : World) (hI : Rd w w.heap.size A len xs) :
    Calls Try.prog 19 #[.slice A len cap] w fun e w' => PkGave w xs e w' := by
  obtain ⟨Z, hZ⟩ : ∃ Z : World, (w.alloc (.cells (lkL Lk.zero (.slice none 0 0)).toArray 41)).alloc (.cells ip0.toArray 54) = Z := ⟨_, rfl⟩
  have HQ := Lib.hid (show Blk Z 41 w.heap.size (lkL Lk.zero (.slice none 0 0)) by rw [← hZ]; exact (Blk_10.new w _ _).alloc _)
  have HP := Lib.hid (show Blk Z 54 (w.heap.size + 1) ip0 by
    rw [← hZ]
    have := Blk_10.new (w.alloc (.cells (lkL Lk.zero (.slice none 0 0)).toArray 41)) 54 ip0
    rwa [World.size_alloc] at this)
  have HB := Lib.hid (show Below w.heap.size w Z by rw [← hZ]; exact ((Below.refl w.heap.size w).alloc (Nat.le_refl _) _).alloc (by simp) _)
  have HZS := Lib.hid (show Z.heap.size = w.heap.size + 1 + 1 by rw [← hZ, World.size_alloc, World.size_alloc])
  rw [← zeroIp, ← zeroLk] at hZ
  have HZ := Lib.hid hZ
  have hR := read_any_7 A len cap xs hlen hcap hcm Z ((hI.below HB.out).more HB.out.size)
  unfold ReadGave_7 at hR
  have H6 := Lib.hid ((rdOf_six xs (rdOf xs).1 (rdOf xs).2 rfl).1)
  have hfN := fN_yes h0
  obtain ⟨a1, a2, a3, a4, _⟩ := atK_ok h0
  have hpk : packK xs = (xs.drop (atK xs)).take (fN xs).total := rfl
  have hin : inL xs = segN (xs.drop (atK xs)) (fN xs) := rfl
  unfold PkGave
  obtain ⟨p, hp⟩ : ∃ p, atK xs = p := ⟨_, rfl⟩
  obtain ⟨L, hL⟩ : ∃ L, (rdOf xs).1 = L := ⟨_, rfl⟩
  rw [hL, h0] at hR
  rw [hL] at H6 a1 hfN ⊢
  rw [hp] at a1 a2 a3 a4 hfN hpk hin
  rw [hI.len] at a2
  have HRR := Lib.hid (hI.from (l := p) a2 cap hcap)
  have hcut := fun W => run_from8 A len cap p a2 W
  have hdl : (xs.drop p).length = len - p := by rw [List.length_drop, hI.len]
  obtain ⟨RA, hRA⟩ : ∃ R, cutA A cap p = R := ⟨_, rfl⟩
  obtain ⟨rl, hrl⟩ : ∃ n, len - p = n := ⟨_, rfl⟩
  obtain ⟨rc, hrc⟩ : ∃ n, cap - p = n := ⟨_, rfl⟩
  have HCL := Lib.hid (show rl ≤ rc ∧ rl ≤ 1000000 ∧ rc ≤ maxLen from ⟨by omega, by omega, by omega⟩)
  rw [hrl] at hdl
  rw [hRA, hrl, hrc] at hcut
  rw [hRA, hrl] at HRR
  obtain ⟨rest, hrest⟩ : ∃ r, xs.drop p = r := ⟨_, rfl⟩
  rw [hrest] at HRR hdl hfN hpk hin
  have HCUT := Lib.hid hcut
  have HTY := Lib.hid (fun tv => (lk_ty L H6.out tv).1)
  have HAT := Lib.hid (fun tv => show (lkL L tv)[14]? = some (.int .i64 (p : Int)) from a1 ▸ (lk_ty L H6.out tv).2)
  have HR := Lib.hid hR
  rw [hpk, hin, hfN]
  rw [hL] at hty
  rw [hty] at HTY ⊢
  have HN := Lib.hid (show ntK 2048 rest = nt4 rest from rfl)
  rw [HN.out]
  have has : ((asN 2048 : Nat) : Int) = 4 := rfl
  rw [has]
  clear hZ hR hL hI h0 hfN hpk hin hcut hp hRA hrl hrc hrest hdl a1 a2 a3 a4 hty has
  go_enter Try.func19, Try.ntmps19
  go_wp2_with fail
  rw [HZ.out]
  refine HR.out.mono ?_
  rintro e w4 ⟨tv, rfl, hown, hb4⟩
  obtain ⟨At, mt, ct, rfl, q1, q2, q3, q4, q5⟩ := hown.sl
  have HT4 := Lib.hid hown
  have HB4 := Lib.hid (HB.out.trans (hb4.mono HB.out.size))
  have HQ4 := Lib.hid (HQ.out.below HQ.out.lt hb4)
  have HP4 := Lib.hid (HP.out.below HP.out.lt hb4)
  clear hb4 hown q1 q2 q3 q4 q5
  go_wp2_with (first
    | ((with_reducible show wpList _ _ _ (⟨none, .store 41 (.tmp 5) (.tmp 12), _, _, _, _⟩ :: _) _ _); refine wpList_storeNewG (op := ⟨none, .store 41 (.tmp 5) (.tmp 12), _, _, _, _⟩) rfl 41 _ _ rfl (by rfl) (lkL L (.slice At mt ct)) (by rfl) (by rw [lkL_len H6.out]; rfl) (sizeLkL H6.out _) (lkL_one L _ rfl) ?_; intro w5 hl5 hb5 hz5; clear hz5; have HB5 := Lib.hid (HB4.out.trans (hb5.mono HB4.out.size)); have HQ5 := Lib.hid (HQ4.out.below HQ4.out.lt hb5); have HP5 := Lib.hid (HP4.out.below HP4.out.lt hb5); have HT5 := Lib.hid (HT4.out.below hb5); have HK5 := Lib.hid hl5; have HG1 := Lib.hid HP4.out.lt; clear hl5 hb5; generalize w4.heap.size = G1 at HK5 HG1 ⊢)
    | ((with_reducible show wpList _ _ _ (⟨some 18, _, _, _, _, _⟩ :: _) _ _); refine wpList_buildw (op := ⟨some 18, _, _, _, _, _⟩) 54 _ rfl (by rfl) _ (by kernel_rfl) ip0.toArray built_ip0 ?_)
    | ((with_reducible show wpList _ _ _ (⟨none, .store 54 (.tmp 7) (.tmp 18), _, _, _, _⟩ :: _) _ _); refine wpList_storeNewG (op := ⟨none, .store 54 (.tmp 7) (.tmp 18), _, _, _, _⟩) rfl 54 _ _ rfl (by rfl) ip0 (by rfl) (by rfl) sizeIp ip0_one ?_; intro w6 hl6 hb6 hz6; clear hz6; have HB6 := Lib.hid (HB5.out.trans (hb6.mono HB5.out.size)); have HQ6 := Lib.hid (HQ5.out.below HQ5.out.lt hb6); have HP6 := Lib.hid (HP5.out.below HP5.out.lt hb6); have HK6 := Lib.hid (HK5.out.below HK5.out.lt hb6); have HT6 := Lib.hid (HT5.out.below hb6); have HLT := Lib.hid (fun g hg => (HT5.out.lt g hg).2); have HI6 := Lib.hid hl6; have HG2 := Lib.hid HK5.out.lt; have HG3 := Lib.hid HP5.out.lt; have ty6 := Blk_10.cell HK6.out (HTY.out (.slice At mt ct)); have at6 := Blk_10.cell HK6.out (HAT.out (.slice At mt ct)); have hcut := HCUT.out; clear hl6 hb6; generalize w5.heap.size = G2 at HI6 HG2 HG3 HLT ⊢))
  refine (tfour_any RA rl rc rest HCL.out.2.1 HCL.out.1 HCL.out.2.2 w6 ((HRR.out.below HB6.out).more HB6.out.size)).mono ?_
  rintro e w7 ⟨rfl, hb7⟩
  obtain ⟨cs, hcs⟩ : ∃ cs, ipV 2048 4 RA rc (nt4 rest) = cs := ⟨_, rfl⟩
  obtain ⟨b, hbb⟩ : ∃ b, decide ((nt4 rest).e = 0) = b := ⟨_, rfl⟩
  have HCS := Lib.hid (show cs.length = 6 by rw [← hcs]; exact ipV_len _ _ _ _ _)
  have HON := Lib.hid (show ∀ v ∈ cs, v.oneCell' = true by rw [← hcs]; exact ipV_one _ _ _ _ _)
  have HCE := Lib.hid hcs
  have HBE := Lib.hid hbb
  rw [hcs, hbb]
  have HB7 := Lib.hid (HB6.out.trans (hb7.mono HB6.out.size))
  have HQ7 := Lib.hid (HQ6.out.below HQ6.out.lt hb7)
  have HP7 := Lib.hid (HP6.out.below HP6.out.lt hb7)
  have HK7 := Lib.hid (HK6.out.below HK6.out.lt hb7)
  have HI7 := Lib.hid (HI6.out.below HI6.out.lt hb7)
  have HT7 := Lib.hid (HT6.out.below hb7)
  clear hb7 hcs hbb ty6 at6 hcut
  go_upto_region 10 with (first
    | ((with_reducible show wpList _ _ _ (⟨none, .store 54 (.tmp 7) (.tmp 29), _, _, _, _⟩ :: _) _ _); refine wpList_storeRG rfl 54 (.tmp 7) _ rfl G2 (by rfl) cs (by rfl) _ HI7.out (by rw [HCS.out]; rfl) (by rw [HCS.out]; exact sizeIp) HON.out ?_; intro w8 hi8 hn8 hb8; have HI8 := Lib.hid hi8; have HB8 := Lib.hid (HB7.out.trans (hb8.mono (Nat.le_trans (Nat.le_succ _) (Nat.le_of_lt HG3.out)))); have HQ8 := Lib.hid (show Blk w8 41 w.heap.size _ from (hn8 _ (Nat.ne_of_lt (Nat.lt_trans (Nat.lt_succ_self _) HG3.out))).trans HQ7.out); have HP8 := Lib.hid (show Blk w8 54 (w.heap.size + 1) ip0 from (hn8 _ (Nat.ne_of_lt HG3.out)).trans HP7.out); have HK8 := Lib.hid (show Blk w8 41 G1 _ from (hn8 _ (Nat.ne_of_lt HG2.out)).trans HK7.out); have HT8 := Lib.hid (HT7.out.kept (gb_of hn8 hb8) (own_ne HLT.out)); clear hi8 hn8 hb8))
  refine wp_region_held_drew (S := fun W => (Blk W 41 G1 (lkL L (.slice At mt ct)) ∧ Blk W 54 G2 cs) ∧ Below w.heap.size w W) (by kernel_rfl) (⟨⟨Blk_10.drew HK8.out, Blk_10.drew HI8.out⟩, HB8.out.drew⟩) (fun hHeld => ?_)
  obtain ⟨X, hX⟩ : ∃ X, w8.drew = X := ⟨_, rfl⟩
  have HQX := Lib.hid (show Blk X 41 w.heap.size _ by rw [← hX]; exact Blk_10.drew HQ8.out)
  have HPX := Lib.hid (show Blk X 54 (w.heap.size + 1) _ by rw [← hX]; exact Blk_10.drew HP8.out)
  have HTX := Lib.hid (show OwnT X Z.heap.size _ _ by rw [← hX]; exact OwnT.drew HT8.out)
  rw [hX] at hHeld ⊢
  clear hX
  refine tkY 0 41 (lkC L (.slice At mt ct)) rfl (yieldsIf_load_mid (by rfl) 41 _ rfl G1 0 rfl (lkL L (.slice At mt ct)) _ (fun W hW => Blk_10.range hW.1.1) Try.underlying41 rfl (sizeLkL H6.out _)) hHeld ?_
  simp only [Act.put, sA, sZ, sS]
  refine tkY 1 42 (.agg cs.toArray) rfl (yieldsIf_load_mid (by rfl) 54 _ rfl G2 0 rfl cs _ (fun W hW => Blk_10.range hW.1.2) Try.underlying54 rfl (by rw [HCS.out]; exact sizeIp)) hHeld ?_
  simp only [Act.put, sA, sZ, sS]
  refine tk 2 43 (.bool b) rfl hHeld ?_
  simp only [Act.put, sA, sZ, sS]
  refine wpAnyH_ready (rs := [3]) (by kernel_rfl) (by simp) (AllReadyH.cons (o := ⟨none, _, _, _, _, _⟩) rfl (fun K hK => ?_) AllReadyH.nil)
  refine step_storeRG rfl 41 _ _ rfl w.heap.size (by rfl) (lkL L (.slice At mt ct)) (by rfl) _ HQX.out (by rw [lkL_len Lk.six_zero, lkL_len H6.out]) (sizeLkL H6.out _) (lkL_one L _ rfl) ?_
  intro Y hqy hny hby
  have HQY := Lib.hid hqy
  have HPY := Lib.hid (show Blk Y 54 (w.heap.size + 1) _ from (hny _ (Nat.succ_ne_self _)).trans HPX.out)
  have HTY := Lib.hid (HTX.out.kept1 (gb_of hny hby) (Nat.lt_of_lt_of_eq (Nat.lt_succ_of_lt (Nat.lt_succ_self _)) HZS.out.symm))
  refine hK.out _ _ (⟨⟨(hny _ (Nat.ne_of_gt (Nat.lt_trans (Nat.lt_succ_self _) HG1.out))).trans hHeld.1.1, (hny _ (Nat.ne_of_gt (Nat.lt_trans (Nat.lt_succ_self _) HG3.out))).trans hHeld.1.2⟩, hHeld.2.trans (hby.mono (Nat.le_refl _))⟩) (fun hHeld => ?_)
  clear hK K hqy hny hby
  refine wpAnyH_ready (rs := [4]) (by kernel_rfl) (by simp) (AllReadyH.cons (o := ⟨none, _, _, _, _, _⟩) rfl (fun K hK => ?_) AllReadyH.nil)
  refine step_storeRG rfl 54 _ _ rfl (w.heap.size + 1) (by rfl) cs (by rfl) _ HPY.out (by rw [HCS.out]; rfl) (by rw [HCS.out]; exact sizeIp) HON.out ?_
  intro V hpv hnv hbv
  have HPZ := Lib.hid hpv
  have HQZ := Lib.hid (show Blk V 41 w.heap.size _ from (hnv _ (Nat.ne_of_lt (Nat.lt_succ_self _))).trans HQY.out)
  have HTZ := Lib.hid (HTY.out.kept1 (gb_of hnv hbv) (Nat.lt_of_lt_of_eq (Nat.lt_succ_self _) HZS.out.symm))
  refine hK.out _ _ (⟨⟨(hnv _ (Nat.ne_of_gt HG1.out)).trans hHeld.1.1, (hnv _ (Nat.ne_of_gt HG3.out)).trans hHeld.1.2⟩, hHeld.2.trans (hbv.mono (Nat.le_succ _))⟩) (fun hHeld => ?_)
  clear hK K hpv hnv hbv
  refine tk 5 4 (.bool b) rfl hHeld ?_
  simp only [Act.put, sA, sZ, sS]
  refine wpAnyH_done (by kernel_rfl) ?_ _
  go_wp2_with fail
  refine bodyPost_ret (v := .tuple #[lkC L (.slice At mt ct), .agg cs.toArray, .bool b]) (results_lkip rfl _ _ w.heap.size (by rfl) _ H6.out _ HQZ.out (w.heap.size + 1) (by rfl) cs HCS.out HPZ.out _ (by rfl)) rfl ?_
  refine ⟨fun hn => ?_, fun hn => ?_, hHeld.2⟩
  · have e1 : cs = ip0 := by rw [← HCE.out]; exact if_neg hn
    have e2 : b = false := by rw [← HBE.out]; exact decide_eq_false hn
    rw [e1, e2]
    exact ⟨L, At, mt, ct, H6.out, rfl⟩
  · have e1 := HCE.out
    have e2 : b = true := by rw [← HBE.out]; exact decide_eq_true hn
    unfold ipV at e1
    rw [if_pos hn] at e1
    rw [← e1, e2]
    have hf := nt4_fits rest
    have f1 := hf.h1
    have f2 := hf.h2
    rw [HRR.out.len] at f2
    have c1 := HCL.out.1
    have c2 := HCL.out.2.2
    exact ⟨At, mt, ct, RA, rc, _, _, rfl, HTZ.out.base_le (by rw [HZS.out]; omega), ⟨by omega, c2, HRR.out.take f2⟩, ⟨by omega, by omega, HRR.out.cut (l := (nt4 rest).head) (n := (nt4 rest).total - (nt4 rest).head) (by omega) rc c1⟩⟩

set_option maxHeartbeats 8000000 in
theorem tpack_ty6 (A : Option Addr) (len cap : Nat) (xs : List UInt8) (hlen : len ≤ 1000000) (hcap : len ≤ cap) (hcm : cap ≤ maxLen) (h0 : (rdOf xs).2 = 0) (hty : (rdOf xs).1.ty = 34525) (w : World) (hI : Rd w w.heap.size A len xs) :
    Calls Try.prog 19 #[.slice A len cap] w fun e w' => PkGave w xs e w' := by
  obtain ⟨Z, hZ⟩ : ∃ Z : World, (w.alloc (.cells (lkL Lk.zero (.slice none 0 0)).toArray 41)).alloc (.cells ip0.toArray 54) = Z := ⟨_, rfl⟩
  have HQ := Lib.hid (show Blk Z 41 w.heap.size (lkL Lk.zero (.slice none 0 0)) by rw [← hZ]; exact (Blk_10.new w _ _).alloc _)
  have HP := Lib.hid (show Blk Z 54 (w.heap.size + 1) ip0 by
    rw [← hZ]
    have := Blk_10.new (w.alloc (.cells (lkL Lk.zero (.slice none 0 0)).toArray 41)) 54 ip0
    rwa [World.size_alloc] at this)
  have HB := Lib.hid (show Below w.heap.size w Z by rw [← hZ]; exact ((Below.refl w.heap.size w).alloc (Nat.le_refl _) _).alloc (by simp) _)
  have HZS := Lib.hid (show Z.heap.size = w.heap.size + 1 + 1 by rw [← hZ, World.size_alloc, World.size_alloc])
  rw [← zeroIp, ← zeroLk] at hZ
  have HZ := Lib.hid hZ
  have hR := read_any_7 A len cap xs hlen hcap hcm Z ((hI.below HB.out).more HB.out.size)
  unfold ReadGave_7 at hR
  have H6 := Lib.hid ((rdOf_six xs (rdOf xs).1 (rdOf xs).2 rfl).1)
  have hfN := fN_yes h0
  obtain ⟨a1, a2, a3, a4, _⟩ := atK_ok h0
  have hpk : packK xs = (xs.drop (atK xs)).take (fN xs).total := rfl
  have hin : inL xs = segN (xs.drop (atK xs)) (fN xs) := rfl
  unfold PkGave
  obtain ⟨p, hp⟩ : ∃ p, atK xs = p := ⟨_, rfl⟩
  obtain ⟨L, hL⟩ : ∃ L, (rdOf xs).1 = L := ⟨_, rfl⟩
  rw [hL, h0] at hR
  rw [hL] at H6 a1 hfN ⊢
  rw [hp] at a1 a2 a3 a4 hfN hpk hin
  rw [hI.len] at a2
  have HRR := Lib.hid (hI.from (l := p) a2 cap hcap)
  have hcut := fun W => run_from8 A len cap p a2 W
  have hdl : (xs.drop p).length = len - p := by rw [List.length_drop, hI.len]
  obtain ⟨RA, hRA⟩ : ∃ R, cutA A cap p = R := ⟨_, rfl⟩
  obtain ⟨rl, hrl⟩ : ∃ n, len - p = n := ⟨_, rfl⟩
  obtain ⟨rc, hrc⟩ : ∃ n, cap - p = n := ⟨_, rfl⟩
  have HCL := Lib.hid (show rl ≤ rc ∧ rl ≤ 1000000 ∧ rc ≤ maxLen from ⟨by omega, by omega, by omega⟩)
  rw [hrl] at hdl
  rw [hRA, hrl, hrc] at hcut
  rw [hRA, hrl] at HRR
  obtain ⟨rest, hrest⟩ : ∃ r, xs.drop p = r := ⟨_, rfl⟩
  rw [hrest] at HRR hdl hfN hpk hin
  have HCUT := Lib.hid hcut
  have HTY := Lib.hid (fun tv => (lk_ty L H6.out tv).1)
  have HAT := Lib.hid (fun tv => show (lkL L tv)[14]? = some (.int .i64 (p : Int)) from a1 ▸ (lk_ty L H6.out tv).2)
  have HR := Lib.hid hR
  rw [hpk, hin, hfN]
  rw [hL] at hty
  rw [hty] at HTY ⊢
  have HN := Lib.hid (show ntK 34525 rest = nt6 rest from rfl)
  rw [HN.out]
  have has : ((asN 34525 : Nat) : Int) = 41 := rfl
  rw [has]
  clear hZ hR hL hI h0 hfN hpk hin hcut hp hRA hrl hrc hrest hdl a1 a2 a3 a4 hty has
  go_enter Try.func19, Try.ntmps19
  go_wp2_with fail
  rw [HZ.out]
  refine HR.out.mono ?_
  rintro e w4 ⟨tv, rfl, hown, hb4⟩
  obtain ⟨At, mt, ct, rfl, q1, q2, q3, q4, q5⟩ := hown.sl
  have HT4 := Lib.hid hown
  have HB4 := Lib.hid (HB.out.trans (hb4.mono HB.out.size))
  have HQ4 := Lib.hid (HQ.out.below HQ.out.lt hb4)
  have HP4 := Lib.hid (HP.out.below HP.out.lt hb4)
  clear hb4 hown q1 q2 q3 q4 q5
  go_wp2_with (first
    | ((with_reducible show wpList _ _ _ (⟨none, .store 41 (.tmp 5) (.tmp 12), _, _, _, _⟩ :: _) _ _); refine wpList_storeNewG (op := ⟨none, .store 41 (.tmp 5) (.tmp 12), _, _, _, _⟩) rfl 41 _ _ rfl (by rfl) (lkL L (.slice At mt ct)) (by rfl) (by rw [lkL_len H6.out]; rfl) (sizeLkL H6.out _) (lkL_one L _ rfl) ?_; intro w5 hl5 hb5 hz5; clear hz5; have HB5 := Lib.hid (HB4.out.trans (hb5.mono HB4.out.size)); have HQ5 := Lib.hid (HQ4.out.below HQ4.out.lt hb5); have HP5 := Lib.hid (HP4.out.below HP4.out.lt hb5); have HT5 := Lib.hid (HT4.out.below hb5); have HK5 := Lib.hid hl5; have HG1 := Lib.hid HP4.out.lt; clear hl5 hb5; generalize w4.heap.size = G1 at HK5 HG1 ⊢)
    | ((with_reducible show wpList _ _ _ (⟨some 18, _, _, _, _, _⟩ :: _) _ _); refine wpList_buildw (op := ⟨some 18, _, _, _, _, _⟩) 54 _ rfl (by rfl) _ (by kernel_rfl) ip0.toArray built_ip0 ?_)
    | ((with_reducible show wpList _ _ _ (⟨none, .store 54 (.tmp 7) (.tmp 18), _, _, _, _⟩ :: _) _ _); refine wpList_storeNewG (op := ⟨none, .store 54 (.tmp 7) (.tmp 18), _, _, _, _⟩) rfl 54 _ _ rfl (by rfl) ip0 (by rfl) (by rfl) sizeIp ip0_one ?_; intro w6 hl6 hb6 hz6; clear hz6; have HB6 := Lib.hid (HB5.out.trans (hb6.mono HB5.out.size)); have HQ6 := Lib.hid (HQ5.out.below HQ5.out.lt hb6); have HP6 := Lib.hid (HP5.out.below HP5.out.lt hb6); have HK6 := Lib.hid (HK5.out.below HK5.out.lt hb6); have HT6 := Lib.hid (HT5.out.below hb6); have HLT := Lib.hid (fun g hg => (HT5.out.lt g hg).2); have HI6 := Lib.hid hl6; have HG2 := Lib.hid HK5.out.lt; have HG3 := Lib.hid HP5.out.lt; have ty6 := Blk_10.cell HK6.out (HTY.out (.slice At mt ct)); have at6 := Blk_10.cell HK6.out (HAT.out (.slice At mt ct)); have hcut := HCUT.out; clear hl6 hb6; generalize w5.heap.size = G2 at HI6 HG2 HG3 HLT ⊢))
  refine (tsix_any RA rl rc rest HCL.out.2.1 HCL.out.1 HCL.out.2.2 w6 ((HRR.out.below HB6.out).more HB6.out.size)).mono ?_
  rintro e w7 ⟨rfl, hb7⟩
  obtain ⟨cs, hcs⟩ : ∃ cs, ipV 34525 41 RA rc (nt6 rest) = cs := ⟨_, rfl⟩
  obtain ⟨b, hbb⟩ : ∃ b, decide ((nt6 rest).e = 0) = b := ⟨_, rfl⟩
  have HCS := Lib.hid (show cs.length = 6 by rw [← hcs]; exact ipV_len _ _ _ _ _)
  have HON := Lib.hid (show ∀ v ∈ cs, v.oneCell' = true by rw [← hcs]; exact ipV_one _ _ _ _ _)
  have HCE := Lib.hid hcs
  have HBE := Lib.hid hbb
  rw [hcs, hbb]
  have HB7 := Lib.hid (HB6.out.trans (hb7.mono HB6.out.size))
  have HQ7 := Lib.hid (HQ6.out.below HQ6.out.lt hb7)
  have HP7 := Lib.hid (HP6.out.below HP6.out.lt hb7)
  have HK7 := Lib.hid (HK6.out.below HK6.out.lt hb7)
  have HI7 := Lib.hid (HI6.out.below HI6.out.lt hb7)
  have HT7 := Lib.hid (HT6.out.below hb7)
  clear hb7 hcs hbb ty6 at6 hcut
  go_upto_region 10 with (first
    | ((with_reducible show wpList _ _ _ (⟨none, .store 54 (.tmp 7) (.tmp 39), _, _, _, _⟩ :: _) _ _); refine wpList_storeRG rfl 54 (.tmp 7) _ rfl G2 (by rfl) cs (by rfl) _ HI7.out (by rw [HCS.out]; rfl) (by rw [HCS.out]; exact sizeIp) HON.out ?_; intro w8 hi8 hn8 hb8; have HI8 := Lib.hid hi8; have HB8 := Lib.hid (HB7.out.trans (hb8.mono (Nat.le_trans (Nat.le_succ _) (Nat.le_of_lt HG3.out)))); have HQ8 := Lib.hid (show Blk w8 41 w.heap.size _ from (hn8 _ (Nat.ne_of_lt (Nat.lt_trans (Nat.lt_succ_self _) HG3.out))).trans HQ7.out); have HP8 := Lib.hid (show Blk w8 54 (w.heap.size + 1) ip0 from (hn8 _ (Nat.ne_of_lt HG3.out)).trans HP7.out); have HK8 := Lib.hid (show Blk w8 41 G1 _ from (hn8 _ (Nat.ne_of_lt HG2.out)).trans HK7.out); have HT8 := Lib.hid (HT7.out.kept (gb_of hn8 hb8) (own_ne HLT.out)); clear hi8 hn8 hb8))
  refine wp_region_held_drew (S := fun W => (Blk W 41 G1 (lkL L (.slice At mt ct)) ∧ Blk W 54 G2 cs) ∧ Below w.heap.size w W) (by kernel_rfl) (⟨⟨Blk_10.drew HK8.out, Blk_10.drew HI8.out⟩, HB8.out.drew⟩) (fun hHeld => ?_)
  obtain ⟨X, hX⟩ : ∃ X, w8.drew = X := ⟨_, rfl⟩
  have HQX := Lib.hid (show Blk X 41 w.heap.size _ by rw [← hX]; exact Blk_10.drew HQ8.out)
  have HPX := Lib.hid (show Blk X 54 (w.heap.size + 1) _ by rw [← hX]; exact Blk_10.drew HP8.out)
  have HTX := Lib.hid (show OwnT X Z.heap.size _ _ by rw [← hX]; exact OwnT.drew HT8.out)
  rw [hX] at hHeld ⊢
  clear hX
  refine tkY 0 41 (lkC L (.slice At mt ct)) rfl (yieldsIf_load_mid (by rfl) 41 _ rfl G1 0 rfl (lkL L (.slice At mt ct)) _ (fun W hW => Blk_10.range hW.1.1) Try.underlying41 rfl (sizeLkL H6.out _)) hHeld ?_
  simp only [Act.put, sA, sZ, sS]
  refine tkY 1 42 (.agg cs.toArray) rfl (yieldsIf_load_mid (by rfl) 54 _ rfl G2 0 rfl cs _ (fun W hW => Blk_10.range hW.1.2) Try.underlying54 rfl (by rw [HCS.out]; exact sizeIp)) hHeld ?_
  simp only [Act.put, sA, sZ, sS]
  refine tk 2 43 (.bool b) rfl hHeld ?_
  simp only [Act.put, sA, sZ, sS]
  refine wpAnyH_ready (rs := [3]) (by kernel_rfl) (by simp) (AllReadyH.cons (o := ⟨none, _, _, _, _, _⟩) rfl (fun K hK => ?_) AllReadyH.nil)
  refine step_storeRG rfl 41 _ _ rfl w.heap.size (by rfl) (lkL L (.slice At mt ct)) (by rfl) _ HQX.out (by rw [lkL_len Lk.six_zero, lkL_len H6.out]) (sizeLkL H6.out _) (lkL_one L _ rfl) ?_
  intro Y hqy hny hby
  have HQY := Lib.hid hqy
  have HPY := Lib.hid (show Blk Y 54 (w.heap.size + 1) _ from (hny _ (Nat.succ_ne_self _)).trans HPX.out)
  have HTY := Lib.hid (HTX.out.kept1 (gb_of hny hby) (Nat.lt_of_lt_of_eq (Nat.lt_succ_of_lt (Nat.lt_succ_self _)) HZS.out.symm))
  refine hK.out _ _ (⟨⟨(hny _ (Nat.ne_of_gt (Nat.lt_trans (Nat.lt_succ_self _) HG1.out))).trans hHeld.1.1, (hny _ (Nat.ne_of_gt (Nat.lt_trans (Nat.lt_succ_self _) HG3.out))).trans hHeld.1.2⟩, hHeld.2.trans (hby.mono (Nat.le_refl _))⟩) (fun hHeld => ?_)
  clear hK K hqy hny hby
  refine wpAnyH_ready (rs := [4]) (by kernel_rfl) (by simp) (AllReadyH.cons (o := ⟨none, _, _, _, _, _⟩) rfl (fun K hK => ?_) AllReadyH.nil)
  refine step_storeRG rfl 54 _ _ rfl (w.heap.size + 1) (by rfl) cs (by rfl) _ HPY.out (by rw [HCS.out]; rfl) (by rw [HCS.out]; exact sizeIp) HON.out ?_
  intro V hpv hnv hbv
  have HPZ := Lib.hid hpv
  have HQZ := Lib.hid (show Blk V 41 w.heap.size _ from (hnv _ (Nat.ne_of_lt (Nat.lt_succ_self _))).trans HQY.out)
  have HTZ := Lib.hid (HTY.out.kept1 (gb_of hnv hbv) (Nat.lt_of_lt_of_eq (Nat.lt_succ_self _) HZS.out.symm))
  refine hK.out _ _ (⟨⟨(hnv _ (Nat.ne_of_gt HG1.out)).trans hHeld.1.1, (hnv _ (Nat.ne_of_gt HG3.out)).trans hHeld.1.2⟩, hHeld.2.trans (hbv.mono (Nat.le_succ _))⟩) (fun hHeld => ?_)
  clear hK K hpv hnv hbv
  refine tk 5 4 (.bool b) rfl hHeld ?_
  simp only [Act.put, sA, sZ, sS]
  refine wpAnyH_done (by kernel_rfl) ?_ _
  go_wp2_with fail
  refine bodyPost_ret (v := .tuple #[lkC L (.slice At mt ct), .agg cs.toArray, .bool b]) (results_lkip rfl _ _ w.heap.size (by rfl) _ H6.out _ HQZ.out (w.heap.size + 1) (by rfl) cs HCS.out HPZ.out _ (by rfl)) rfl ?_
  refine ⟨fun hn => ?_, fun hn => ?_, hHeld.2⟩
  · have e1 : cs = ip0 := by rw [← HCE.out]; exact if_neg hn
    have e2 : b = false := by rw [← HBE.out]; exact decide_eq_false hn
    rw [e1, e2]
    exact ⟨L, At, mt, ct, H6.out, rfl⟩
  · have e1 := HCE.out
    have e2 : b = true := by rw [← HBE.out]; exact decide_eq_true hn
    unfold ipV at e1
    rw [if_pos hn] at e1
    rw [← e1, e2]
    have hf := nt6_fits rest
    have f1 := hf.h1
    have f2 := hf.h2
    rw [HRR.out.len] at f2
    have c1 := HCL.out.1
    have c2 := HCL.out.2.2
    exact ⟨At, mt, ct, RA, rc, _, _, rfl, HTZ.out.base_le (by rw [HZS.out]; omega), ⟨by omega, c2, HRR.out.take f2⟩, ⟨by omega, by omega, HRR.out.cut (l := (nt6 rest).head) (n := (nt6 rest).total - (nt6 rest).head) (by omega) rc c1⟩⟩
/-- tunnel.packetOf -/
theorem tpack_any (A : Option Addr) (len cap : Nat) (xs : List UInt8) (hlen : len ≤ 1000000) (hcap : len ≤ cap) (hcm : cap ≤ maxLen) (w : World) (hI : Rd w w.heap.size A len xs) :
    Calls Try.prog 19 #[.slice A len cap] w (PkGave w xs) := by
  by_cases h0 : (rdOf xs).2 = 0
  · by_cases h4 : (rdOf xs).1.ty = 2048
    · exact tpack_ty4 A len cap xs hlen hcap hcm h0 h4 w hI
    · by_cases h6 : (rdOf xs).1.ty = 34525
      · exact tpack_ty6 A len cap xs hlen hcap hcm h0 h6 w hI
      · exact tpack_tyx A len cap xs hlen hcap hcm h0 h4 h6 w hI
  · refine (tpack_no A len cap xs hlen hcap hcm h0 w hI).mono ?_
    rintro e w' ⟨rfl, hb⟩
    refine ⟨fun _ => ⟨Lk.zero, none, 0, 0, Lk.six_zero, rfl⟩, fun hn => ?_, hb⟩
    rw [fN_no h0] at hn
    cases hn
end Go.Proofs.Ytomkfcpellcncaa
