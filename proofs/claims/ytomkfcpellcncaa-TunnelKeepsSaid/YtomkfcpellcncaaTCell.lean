/-
  The struct of what counts of an IP packet; tunnel.fourOf, tunnel.sixOf.
-/
import Derived.Test.YtomkfcpellcncaaTMath
import Derived.Deep.DeepCutAuto
namespace Go.Proofs.Ytomkfcpellcncaa
set_option maxRecDepth 100000
open Go.RowKit Go.Lib

/-- The cells of what counts of an IP packet. -/
def ipL (k a : Int) (wv lv : Value) (p : Int) (f : Bool) : List Value := [.int .i64 k, .int .i64 a, wv, lv, .int .i64 p, .bool f]
def ip0 : List Value := ipL 0 0 (.slice none 0 0) (.slice none 0 0) 0 false
theorem ipL_one (k a : Int) (A A2 : Option Addr) (n c n2 c2 : Nat) (p : Int) (f : Bool) : ∀ v ∈ ipL k a (.slice A n c) (.slice A2 n2 c2) p f, v.oneCell' = true := by
  intro v hv
  unfold ipL at hv
  simp only [List.mem_cons, List.not_mem_nil, or_false] at hv
  rcases hv with rfl | rfl | rfl | rfl | rfl | rfl <;> rfl
theorem ip0_one : ∀ v ∈ ip0, v.oneCell' = true := ipL_one 0 0 none none 0 0 0 0 0 false
theorem sizeIp : (Try.prog.info? 54).map (·.size) = some 6 := by kernel_rfl
theorem zeroIp : (#[.int .i64 0, .int .i64 0, .slice none 0 0, .slice none 0 0, .int .i64 0, .bool false] : Array Value) = ip0.toArray := rfl
theorem built_ip0 : Try.prog.built 54 [] = some ip0.toArray := by kernel_rfl
theorem built_ip (k a : Int) (A A2 : Option Addr) (n c n2 c2 : Nat) (p : Int) (f : Bool) : Try.prog.built 54 [(0, .int .i64 k), (1, .int .i64 a), (2, .slice A n c), (3, .slice A2 n2 c2), (4, .int .i64 p), (5, .bool f)] = some (ipL k a (.slice A n c) (.slice A2 n2 c2) p f).toArray := by kernel_rfl
theorem results_ip {fn : Func} {p u : Tmp} (hr : fn.results = #[.cell p 54, .tmp u]) (tmps : Array Value) (w : World) (g : Nat) (hp : tmps.getD p undef = .pointer (some ⟨g, 0, none⟩)) (cs : List Value) (hl : cs.length = 6) (hb : Blk w 54 g cs)
    (v : Value) (hu : tmps.getD u undef = v) : (results fn tmps).run Try.prog w = .ok (.tuple #[.agg cs.toArray, v]) w := by
  have hz := run_loadVar_mid (P := Try.prog) w g 0 54 cs _ (Blk_10.range hb) Try.underlying54 rfl (by rw [hl]; exact sizeIp)
  rw [results_cell_tmp hr, hp, hu]
  simp [Result.andThen, asAddr, hz]
theorem results_cct {fn : Func} {p q u : Tmp} {ty tz : TypeId} (h : fn.results = #[.cell p ty, .cell q tz, .tmp u]) (tmps : Array Value) (P : Program) (w : World) :
    (results fn tmps).run P w =
      ((asAddr (tmps.getD p undef)).run P w).andThen fun a w₁ => ((loadVar ty a).run P w₁).andThen fun v w₂ => ((asAddr (tmps.getD q undef)).run P w₂).andThen fun a w₃ => ((loadVar tz a).run P w₃).andThen fun v' w₄ => .ok (.tuple #[v, v', tmps.getD u undef]) w₄ := by
  simp only [results, h]
  simp [Sem.run_bind, Result.andThen]
theorem results_lkip {fn : Func} {p q u : Tmp} (hr : fn.results = #[.cell p 41, .cell q 54, .tmp u]) (tmps : Array Value) (w : World) (g : Nat) (hp : tmps.getD p undef = .pointer (some ⟨g, 0, none⟩)) (L : Lk) (h6 : L.Six) (tv : Value) (hb : Blk w 41 g (lkL L tv))
    (g2 : Nat) (hq : tmps.getD q undef = .pointer (some ⟨g2, 0, none⟩)) (cs : List Value) (hl : cs.length = 6) (hb2 : Blk w 54 g2 cs)
    (v : Value) (hu : tmps.getD u undef = v) : (results fn tmps).run Try.prog w = .ok (.tuple #[lkC L tv, .agg cs.toArray, v]) w := by
  have hy := run_loadVar_mid (P := Try.prog) w g 0 41 (lkL L tv) _ (Blk_10.range hb) Try.underlying41 rfl (sizeLkL h6 tv)
  have hz := run_loadVar_mid (P := Try.prog) w g2 0 54 cs _ (Blk_10.range hb2) Try.underlying54 rfl (by rw [hl]; exact sizeIp)
  rw [results_cct hr, hp, hq, hu]
  simp [Result.andThen, asAddr, hy, hz, lkC]
/-- A slice that reads as these bytes. -/
structure SlR (w : World) (A : Option Addr) (n c : Nat) (zs : List UInt8) : Prop where
  h1 : n ≤ c
  h2 : c ≤ maxLen
  r : Rd w w.heap.size A n zs
theorem SlR.below {w w' : World} {A : Option Addr} {n c : Nat} {zs : List UInt8} (h : SlR w A n c zs) (hb : Below w.heap.size w w') : SlR w' A n c zs := ⟨h.h1, h.h2, (h.r.below hb).more hb.size⟩
/-- What fourOf, sixOf and carried answer, as cells. -/
def ipV (ty pas : Int) (A : Option Addr) (cap : Nat) (n : Nt) : List Value := if n.e = 0 then ipL ty pas (.slice A n.total cap) (.slice (cutA A cap n.head) (n.total - n.head) (cap - n.head)) (n.proto : Int) n.frag else ip0
theorem ipV_len (ty pas : Int) (A : Option Addr) (cap : Nat) (n : Nt) : (ipV ty pas A cap n).length = 6 := by unfold ipV; split <;> rfl
theorem ipV_one (ty pas : Int) (A : Option Addr) (cap : Nat) (n : Nt) : ∀ v ∈ ipV ty pas A cap n, v.oneCell' = true := by
  unfold ipV
  split
  · exact ipL_one _ _ _ _ _ _ _ _ _ _
  · exact ip0_one
def IpGave (w : World) (ty pas : Int) (A : Option Addr) (cap : Nat) (n : Nt) (e : Ending) (w' : World) : Prop :=
  e = .returned (.tuple #[.agg (ipV ty pas A cap n).toArray, .bool (decide (n.e = 0))]) ∧ Below w.heap.size w w'

set_option maxHeartbeats 4000000 in
theorem tfour_no (A : Option Addr) (len cap : Nat) (xs : List UInt8) (hlen : len ≤ 1000000) (hcap : len ≤ cap) (hcm : cap ≤ maxLen) (h0 : (nt4 xs).e ≠ 0) (w : World) (hI : Rd w w.heap.size A len xs) :
    Calls Try.prog 37 #[.slice A len cap] w fun e w' => e = .returned (.tuple #[.agg ip0.toArray, .bool false]) ∧ Below w.heap.size w w' := by
  obtain ⟨Z, hZ⟩ : ∃ Z : World, w.alloc (.cells ip0.toArray 54) = Z := ⟨_, rfl⟩
  have HP := Lib.hid (show Blk Z 54 w.heap.size ip0 by rw [← hZ]; exact Blk_10.new w _ _)
  have HB := Lib.hid (show Below w.heap.size w Z by rw [← hZ]; exact (Below.refl w.heap.size w).alloc (Nat.le_refl _) _)
  rw [← zeroIp] at hZ
  have HZ := Lib.hid hZ
  have HR := Lib.hid (read_any_8 A len cap xs hlen hcap hcm Z ((hI.below HB.out).more HB.out.size))
  unfold ReadGave_8 at HR
  have NE := Lib.hid (nt4_e xs)
  have HNF := Lib.hid (nt4_fr xs)
  have NS := Lib.hid (nt4_fits xs)
  have HFO := Lib.hid (rdF_ok xs)
  have HXL := Lib.hid hI.len
  obtain ⟨n, hn⟩ : ∃ n, nt4 xs = n := ⟨_, rfl⟩
  obtain ⟨f, hf⟩ : ∃ f, rdF xs = f := ⟨_, rfl⟩
  obtain ⟨E2, hE2⟩ : ∃ E, faultN xs = E := ⟨_, rfl⟩
  rw [hn] at h0 NE HNF NS 
  rw [hf] at HR HNF HFO
  rw [hE2] at HR NE
  have hne : E2 ≠ 0 := fun h => h0 (NE.out.trans h)
  have bE : ((E2 : Int) == 0) = false := by simp; omega
  have bE2 : (E2 == 0) = false := by simp [hne]
  have bE3 : ((E2 : Int) != 0) = true := by simp; omega
  clear hne
  clear hZ hI hn hf hE2 h0
  go_enter Try.func37, Try.ntmps37
  go_wp2_with fail
  rw [HZ.out]
  refine HR.out.mono ?_
  rintro e w4 ⟨rfl, hb4⟩
  have HB4 := Lib.hid (HB.out.trans (hb4.mono HB.out.size))
  have HP4 := Lib.hid (HP.out.below HP.out.lt hb4)
  clear hb4
  go_wp2_with (first
    | ((with_reducible show wpList _ _ _ (⟨none, .store 68 (.tmp 4) _, _, _, _, _⟩ :: _) _ _); refine wpList_storeNewG (op := ⟨none, .store 68 (.tmp 4) _, _, _, _, _⟩) rfl 68 _ _ rfl (by rfl) (frL_8 f) (by rfl) (by rw [frL_len_8 HFO.out]; rfl) (sizeFrL_8 HFO.out) (frL_one_8 _) ?_; intro w5 hf5 hb5 hz5; clear hz5; have HB5 := Lib.hid (HB4.out.trans (hb5.mono HB4.out.size)); have HP5 := Lib.hid (HP4.out.below HP4.out.lt hb5); have HF5 := Lib.hid hf5; have HPG := Lib.hid HP4.out.lt; clear hf5 hb5; generalize w4.heap.size = G at HF5 HPG ⊢)
    | ((with_reducible show wpList _ _ _ (⟨some 13, _, _, _, _, _⟩ :: _) _ _); refine wpList_buildw (op := ⟨some 13, _, _, _, _, _⟩) 54 _ rfl (by rfl) _ (by kernel_rfl) ip0.toArray built_ip0 ?_)
    | ((with_reducible show wpList _ _ _ (⟨none, .store 54 (.tmp 2) _, _, _, _, _⟩ :: _) _ _); refine wpList_storeR_10 rfl 54 _ _ rfl w.heap.size (by rfl) ip0 (by rfl) _ HP5.out rfl sizeIp ip0_one ?_))
  refine bodyPost_ret (v := .tuple #[.agg ip0.toArray, .bool false]) (results_ip rfl _ _ w.heap.size (by rfl) _ rfl (Blk_10.setRow_ HP5.out _) _ (by rfl)) rfl ?_
  exact ⟨rfl, below_setRow HB5.out (Nat.le_refl _) _⟩

set_option maxHeartbeats 8000000 in
theorem tfour_yes (A : Option Addr) (len cap : Nat) (xs : List UInt8) (hlen : len ≤ 1000000) (hcap : len ≤ cap) (hcm : cap ≤ maxLen) (h0 : (nt4 xs).e = 0) (w : World) (hI : Rd w w.heap.size A len xs) :
    Calls Try.prog 37 #[.slice A len cap] w fun e w' => e = .returned (.tuple #[.agg (ipL 2048 4 (.slice A (nt4 xs).total cap) (.slice (cutA A cap (nt4 xs).head) ((nt4 xs).total - (nt4 xs).head) (cap - (nt4 xs).head)) ((nt4 xs).proto : Int) (nt4 xs).frag).toArray, .bool true]) ∧ Below w.heap.size w w' := by
  obtain ⟨Z, hZ⟩ : ∃ Z : World, w.alloc (.cells ip0.toArray 54) = Z := ⟨_, rfl⟩
  have HP := Lib.hid (show Blk Z 54 w.heap.size ip0 by rw [← hZ]; exact Blk_10.new w _ _)
  have HB := Lib.hid (show Below w.heap.size w Z by rw [← hZ]; exact (Below.refl w.heap.size w).alloc (Nat.le_refl _) _)
  rw [← zeroIp] at hZ
  have HZ := Lib.hid hZ
  have HR := Lib.hid (read_any_8 A len cap xs hlen hcap hcm Z ((hI.below HB.out).more HB.out.size))
  unfold ReadGave_8 at HR
  have NE := Lib.hid (nt4_e xs)
  have HNF := Lib.hid (nt4_fr xs)
  have NS := Lib.hid (nt4_fits xs)
  have HFO := Lib.hid (rdF_ok xs)
  have HXL := Lib.hid hI.len
  obtain ⟨n, hn⟩ : ∃ n, nt4 xs = n := ⟨_, rfl⟩
  obtain ⟨f, hf⟩ : ∃ f, rdF xs = f := ⟨_, rfl⟩
  obtain ⟨E2, hE2⟩ : ∃ E, faultN xs = E := ⟨_, rfl⟩
  rw [hn] at h0 NE HNF NS ⊢
  rw [hf] at HR HNF HFO
  rw [hE2] at HR NE
  have e0 : E2 = 0 := NE.out.symm.trans h0
  subst e0
  obtain ⟨M, hM⟩ : ∃ M, n.total - n.head = M := ⟨_, rfl⟩
  rw [hM]
  have b1 := NS.out.h1
  have b2 := NS.out.h2
  have HUP := Lib.hid (fun W => run_upto8 A len cap n.total (n.total : Int) rfl (by have := HXL.out; omega) W)
  have HCU := Lib.hid (fun W => run_cut8 A len cap n.head M (n.head : Int) (n.total : Int) rfl (by omega) (by have := HXL.out; omega) W)
  have C0' := Lib.hid (fun (G : Nat) (W : World) (h : Blk W 68 G (frL_8 f)) => show W.cell? ⟨G, 0, none⟩ = some (.int .i64 (n.head : Int)) ∧ W.cell? ⟨G, 1, none⟩ = some (.int .i64 (n.total : Int)) ∧ W.cell? ⟨G, 7, none⟩ = some (.int .i64 (n.proto : Int)) ∧ W.cell? ⟨G, 4, none⟩ = some (.bool n.frag) by
    obtain ⟨q1, q2, q3, q4, _⟩ := HNF.out
    rw [← q1, ← q2, ← q3, ← q4]
    exact ⟨Blk_10.cell h rfl, Blk_10.cell h rfl, Blk_10.cell h rfl, Blk_10.cell h rfl⟩)
  clear hZ hI hn hf hE2 h0 b1 b2 hM
  go_enter Try.func37, Try.ntmps37
  go_wp2_with fail
  rw [HZ.out]
  refine HR.out.mono ?_
  rintro e w4 ⟨rfl, hb4⟩
  have HB4 := Lib.hid (HB.out.trans (hb4.mono HB.out.size))
  have HP4 := Lib.hid (HP.out.below HP.out.lt hb4)
  clear hb4
  go_upto_region 4 with (first
    | ((with_reducible show wpList _ _ _ (⟨none, .store 68 (.tmp 4) _, _, _, _, _⟩ :: _) _ _); refine wpList_storeNewG (op := ⟨none, .store 68 (.tmp 4) _, _, _, _, _⟩) rfl 68 _ _ rfl (by rfl) (frL_8 f) (by rfl) (by rw [frL_len_8 HFO.out]; rfl) (sizeFrL_8 HFO.out) (frL_one_8 _) ?_; intro w5 hf5 hb5 hz5; clear hz5; have HB5 := Lib.hid (HB4.out.trans (hb5.mono HB4.out.size)); have HP5 := Lib.hid (HP4.out.below HP4.out.lt hb5); have HF5 := Lib.hid hf5; have HPG := Lib.hid HP4.out.lt; clear hf5 hb5; generalize w4.heap.size = G at HF5 HPG ⊢))
  have C0 := Lib.hid (C0'.out G)
  refine wp_region_held_drew (S := fun W => Below w.heap.size w W ∧ Blk W 68 G (frL_8 f)) (by kernel_rfl) (⟨HB5.out.drew, Blk_10.drew HF5.out⟩) (fun hHeld => ?_)
  obtain ⟨X, hX⟩ : ∃ X, w5.drew = X := ⟨_, rfl⟩
  have HPX := Lib.hid (show Blk X 54 w.heap.size ip0 by rw [← hX]; exact Blk_10.drew HP5.out)
  rw [hX] at hHeld ⊢
  clear hX
  refine tk 0 14 (.slice A len cap) rfl hHeld ?_
  simp only [Act.put, sA, sZ, sS]
  refine tk 1 15 (.pointer (some ⟨G, 1, none⟩)) rfl hHeld ?_
  simp only [Act.put, sA, sZ, sS]
  refine tkY 2 16 (.int .i64 (n.total : Int)) rfl (Or.inl ⟨by rfl, fun W hW => by have hc := (C0.out W hW.2).2.1; go_simp⟩) hHeld ?_
  simp only [Act.put, sA, sZ, sS]
  refine tkY 3 17 (.slice A n.total cap) rfl (Or.inl ⟨by rfl, fun W _ => by have hs := HUP.out W; go_simp⟩) hHeld ?_
  simp only [Act.put, sA, sZ, sS]
  refine tk 4 18 (.slice A len cap) rfl hHeld ?_
  simp only [Act.put, sA, sZ, sS]
  refine tk 5 19 (.pointer (some ⟨G, 0, none⟩)) rfl hHeld ?_
  simp only [Act.put, sA, sZ, sS]
  refine tkY 6 20 (.int .i64 (n.head : Int)) rfl (Or.inl ⟨by rfl, fun W hW => by have hc := (C0.out W hW.2).1; go_simp⟩) hHeld ?_
  simp only [Act.put, sA, sZ, sS]
  refine tk 7 21 (.pointer (some ⟨G, 1, none⟩)) rfl hHeld ?_
  simp only [Act.put, sA, sZ, sS]
  refine tkY 8 22 (.int .i64 (n.total : Int)) rfl (Or.inl ⟨by rfl, fun W hW => by have hc := (C0.out W hW.2).2.1; go_simp⟩) hHeld ?_
  simp only [Act.put, sA, sZ, sS]
  refine tkY 9 23 (.slice (cutA A cap n.head) M (cap - n.head)) rfl (Or.inl ⟨by rfl, fun W _ => by have hs := HCU.out W; go_simp⟩) hHeld ?_
  simp only [Act.put, sA, sZ, sS]
  refine tk 10 24 (.pointer (some ⟨G, 7, none⟩)) rfl hHeld ?_
  simp only [Act.put, sA, sZ, sS]
  refine tkY 11 25 (.int .i64 (n.proto : Int)) rfl (Or.inl ⟨by rfl, fun W hW => by have hc := (C0.out W hW.2).2.2.1; go_simp⟩) hHeld ?_
  simp only [Act.put, sA, sZ, sS]
  refine tk 12 26 (.pointer (some ⟨G, 4, none⟩)) rfl hHeld ?_
  simp only [Act.put, sA, sZ, sS]
  refine tkY 13 27 (.bool n.frag) rfl (Or.inl ⟨by rfl, fun W hW => by have hc := (C0.out W hW.2).2.2.2; go_simp⟩) hHeld ?_
  simp only [Act.put, sA, sZ, sS]
  refine tkY 14 28 (.agg (ipL 2048 4 (.slice A n.total cap) (.slice (cutA A cap n.head) M (cap - n.head)) (n.proto : Int) n.frag).toArray) rfl (yields_build (by rfl) 54 _ rfl [(0, .int .i64 2048), (1, .int .i64 4), (2, .slice A n.total cap), (3, .slice (cutA A cap n.head) M (cap - n.head)), (4, .int .i64 (n.proto : Int)), (5, .bool n.frag)] (by kernel_rfl) _ (built_ip _ _ _ _ _ _ _ _ _ _)) hHeld ?_
  simp only [Act.put, sA, sZ, sS]
  refine wpAnyH_ready (rs := [15]) (by kernel_rfl) (by simp) (AllReadyH.cons (o := ⟨none, _, _, _, _, _⟩) rfl (fun K hK => ?_) AllReadyH.nil)
  refine step_storeR_10 rfl 54 _ _ rfl w.heap.size (by rfl) (ipL 2048 4 (.slice A n.total cap) (.slice (cutA A cap n.head) M (cap - n.head)) (n.proto : Int) n.frag) (by rfl) _ HPX.out rfl sizeIp (ipL_one _ _ _ _ _ _ _ _ _ _) ?_
  have HPZ := Lib.hid (Blk_10.setRow_ HPX.out (ipL 2048 4 (.slice A n.total cap) (.slice (cutA A cap n.head) M (cap - n.head)) (n.proto : Int) n.frag))
  refine hK.out _ _ (⟨below_setRow hHeld.1 (Nat.le_refl _) _, Blk_10.setRow_far hHeld.2 (Nat.ne_of_gt HPG.out) _⟩) (fun hHeld => ?_)
  clear hK K 
  refine tk 16 3 (.bool true) rfl hHeld ?_
  simp only [Act.put, sA, sZ, sS]
  refine wpAnyH_done (by kernel_rfl) ?_ _
  go_wp2_with fail
  refine bodyPost_ret (v := .tuple #[.agg (ipL 2048 4 (.slice A n.total cap) (.slice (cutA A cap n.head) M (cap - n.head)) (n.proto : Int) n.frag).toArray, .bool true]) (results_ip rfl _ _ w.heap.size (by rfl) _ rfl HPZ.out _ (by rfl)) rfl ?_
  exact ⟨rfl, hHeld.1⟩
/-- tunnel.fourOf -/
theorem tfour_any (A : Option Addr) (len cap : Nat) (xs : List UInt8) (hlen : len ≤ 1000000) (hcap : len ≤ cap) (hcm : cap ≤ maxLen) (w : World) (hI : Rd w w.heap.size A len xs) :
    Calls Try.prog 37 #[.slice A len cap] w (IpGave w 2048 4 A cap (nt4 xs)) := by
  unfold IpGave ipV
  by_cases h0 : (nt4 xs).e = 0
  · rw [if_pos h0, decide_eq_true h0]
    exact tfour_yes A len cap xs hlen hcap hcm h0 w hI
  · rw [if_neg h0, decide_eq_false h0]
    exact tfour_no A len cap xs hlen hcap hcm h0 w hI

set_option maxHeartbeats 4000000 in
theorem tsix_no (A : Option Addr) (len cap : Nat) (xs : List UInt8) (hlen : len ≤ 1000000) (hcap : len ≤ cap) (hcm : cap ≤ maxLen) (h0 : (nt6 xs).e ≠ 0) (w : World) (hI : Rd w w.heap.size A len xs) :
    Calls Try.prog 38 #[.slice A len cap] w fun e w' => e = .returned (.tuple #[.agg ip0.toArray, .bool false]) ∧ Below w.heap.size w w' := by
  obtain ⟨Z, hZ⟩ : ∃ Z : World, w.alloc (.cells ip0.toArray 54) = Z := ⟨_, rfl⟩
  have HP := Lib.hid (show Blk Z 54 w.heap.size ip0 by rw [← hZ]; exact Blk_10.new w _ _)
  have HB := Lib.hid (show Below w.heap.size w Z by rw [← hZ]; exact (Below.refl w.heap.size w).alloc (Nat.le_refl _) _)
  rw [← zeroIp] at hZ
  have HZ := Lib.hid hZ
  have HR := Lib.hid (read_any_9 A len cap xs hlen hcap hcm Z ((hI.below HB.out).more HB.out.size))
  unfold ReadGave_9 at HR
  have NE := Lib.hid (nt6_e xs)
  have HNF := Lib.hid (nt6_fr xs)
  have NS := Lib.hid (nt6_fits xs)
  have HFO := Lib.hid (rdF_ok_9 xs)
  have HXL := Lib.hid hI.len
  obtain ⟨n, hn⟩ : ∃ n, nt6 xs = n := ⟨_, rfl⟩
  obtain ⟨f, hf⟩ : ∃ f, rdF_9 xs = f := ⟨_, rfl⟩
  obtain ⟨E2, hE2⟩ : ∃ E, rdN xs = E := ⟨_, rfl⟩
  rw [hn] at h0 NE HNF NS 
  rw [hf] at HR HNF HFO
  rw [hE2] at HR NE
  have hne : E2 ≠ 0 := fun h => h0 (NE.out.trans h)
  have bE : ((E2 : Int) == 0) = false := by simp; omega
  have bE2 : (E2 == 0) = false := by simp [hne]
  have bE3 : ((E2 : Int) != 0) = true := by simp; omega
  clear hne
  clear hZ hI hn hf hE2 h0
  go_enter Try.func38, Try.ntmps38
  go_wp2_with fail
  rw [HZ.out]
  refine HR.out.mono ?_
  rintro e w4 ⟨rfl, hb4⟩
  have HB4 := Lib.hid (HB.out.trans (hb4.mono HB.out.size))
  have HP4 := Lib.hid (HP.out.below HP.out.lt hb4)
  clear hb4
  go_wp2_with (first
    | ((with_reducible show wpList _ _ _ (⟨none, .store 65 (.tmp 4) _, _, _, _, _⟩ :: _) _ _); refine wpList_storeNewG (op := ⟨none, .store 65 (.tmp 4) _, _, _, _, _⟩) rfl 65 _ _ rfl (by rfl) (frL_9 f) (by rfl) (by rw [frL_len_9 HFO.out]; rfl) (sizeFrL_9 HFO.out) (frL_one_9 _) ?_; intro w5 hf5 hb5 hz5; clear hz5; have HB5 := Lib.hid (HB4.out.trans (hb5.mono HB4.out.size)); have HP5 := Lib.hid (HP4.out.below HP4.out.lt hb5); have HF5 := Lib.hid hf5; have HPG := Lib.hid HP4.out.lt; clear hf5 hb5; generalize w4.heap.size = G at HF5 HPG ⊢)
    | ((with_reducible show wpList _ _ _ (⟨some 13, _, _, _, _, _⟩ :: _) _ _); refine wpList_buildw (op := ⟨some 13, _, _, _, _, _⟩) 54 _ rfl (by rfl) _ (by kernel_rfl) ip0.toArray built_ip0 ?_)
    | ((with_reducible show wpList _ _ _ (⟨none, .store 54 (.tmp 2) _, _, _, _, _⟩ :: _) _ _); refine wpList_storeR_10 rfl 54 _ _ rfl w.heap.size (by rfl) ip0 (by rfl) _ HP5.out rfl sizeIp ip0_one ?_))
  refine bodyPost_ret (v := .tuple #[.agg ip0.toArray, .bool false]) (results_ip rfl _ _ w.heap.size (by rfl) _ rfl (Blk_10.setRow_ HP5.out _) _ (by rfl)) rfl ?_
  exact ⟨rfl, below_setRow HB5.out (Nat.le_refl _) _⟩

set_option maxHeartbeats 8000000 in
theorem tsix_yes (A : Option Addr) (len cap : Nat) (xs : List UInt8) (hlen : len ≤ 1000000) (hcap : len ≤ cap) (hcm : cap ≤ maxLen) (h0 : (nt6 xs).e = 0) (w : World) (hI : Rd w w.heap.size A len xs) :
    Calls Try.prog 38 #[.slice A len cap] w fun e w' => e = .returned (.tuple #[.agg (ipL 34525 41 (.slice A (nt6 xs).total cap) (.slice (cutA A cap (nt6 xs).head) ((nt6 xs).total - (nt6 xs).head) (cap - (nt6 xs).head)) ((nt6 xs).proto : Int) (nt6 xs).frag).toArray, .bool true]) ∧ Below w.heap.size w w' := by
  obtain ⟨Z, hZ⟩ : ∃ Z : World, w.alloc (.cells ip0.toArray 54) = Z := ⟨_, rfl⟩
  have HP := Lib.hid (show Blk Z 54 w.heap.size ip0 by rw [← hZ]; exact Blk_10.new w _ _)
  have HB := Lib.hid (show Below w.heap.size w Z by rw [← hZ]; exact (Below.refl w.heap.size w).alloc (Nat.le_refl _) _)
  rw [← zeroIp] at hZ
  have HZ := Lib.hid hZ
  have HR := Lib.hid (read_any_9 A len cap xs hlen hcap hcm Z ((hI.below HB.out).more HB.out.size))
  unfold ReadGave_9 at HR
  have NE := Lib.hid (nt6_e xs)
  have HNF := Lib.hid (nt6_fr xs)
  have NS := Lib.hid (nt6_fits xs)
  have HFO := Lib.hid (rdF_ok_9 xs)
  have HXL := Lib.hid hI.len
  obtain ⟨n, hn⟩ : ∃ n, nt6 xs = n := ⟨_, rfl⟩
  obtain ⟨f, hf⟩ : ∃ f, rdF_9 xs = f := ⟨_, rfl⟩
  obtain ⟨E2, hE2⟩ : ∃ E, rdN xs = E := ⟨_, rfl⟩
  rw [hn] at h0 NE HNF NS ⊢
  rw [hf] at HR HNF HFO
  rw [hE2] at HR NE
  have e0 : E2 = 0 := NE.out.symm.trans h0
  subst e0
  obtain ⟨M, hM⟩ : ∃ M, n.total - n.head = M := ⟨_, rfl⟩
  rw [hM]
  have b1 := NS.out.h1
  have b2 := NS.out.h2
  have HUP := Lib.hid (fun W => run_upto8 A len cap n.total (n.total : Int) rfl (by have := HXL.out; omega) W)
  have HCU := Lib.hid (fun W => run_cut8 A len cap n.head M (n.head : Int) (n.total : Int) rfl (by omega) (by have := HXL.out; omega) W)
  have C0' := Lib.hid (fun (G : Nat) (W : World) (h : Blk W 65 G (frL_9 f)) => show W.cell? ⟨G, 0, none⟩ = some (.int .i64 (n.head : Int)) ∧ W.cell? ⟨G, 1, none⟩ = some (.int .i64 (n.total : Int)) ∧ W.cell? ⟨G, 5, none⟩ = some (.int .i64 (n.proto : Int)) ∧ W.cell? ⟨G, 3, none⟩ = some (.bool n.frag) by
    obtain ⟨q1, q2, q3, q4, _⟩ := HNF.out
    rw [← q1, ← q2, ← q3, ← q4]
    exact ⟨Blk_10.cell h rfl, Blk_10.cell h rfl, Blk_10.cell h rfl, Blk_10.cell h rfl⟩)
  clear hZ hI hn hf hE2 h0 b1 b2 hM
  go_enter Try.func38, Try.ntmps38
  go_wp2_with fail
  rw [HZ.out]
  refine HR.out.mono ?_
  rintro e w4 ⟨rfl, hb4⟩
  have HB4 := Lib.hid (HB.out.trans (hb4.mono HB.out.size))
  have HP4 := Lib.hid (HP.out.below HP.out.lt hb4)
  clear hb4
  go_upto_region 4 with (first
    | ((with_reducible show wpList _ _ _ (⟨none, .store 65 (.tmp 4) _, _, _, _, _⟩ :: _) _ _); refine wpList_storeNewG (op := ⟨none, .store 65 (.tmp 4) _, _, _, _, _⟩) rfl 65 _ _ rfl (by rfl) (frL_9 f) (by rfl) (by rw [frL_len_9 HFO.out]; rfl) (sizeFrL_9 HFO.out) (frL_one_9 _) ?_; intro w5 hf5 hb5 hz5; clear hz5; have HB5 := Lib.hid (HB4.out.trans (hb5.mono HB4.out.size)); have HP5 := Lib.hid (HP4.out.below HP4.out.lt hb5); have HF5 := Lib.hid hf5; have HPG := Lib.hid HP4.out.lt; clear hf5 hb5; generalize w4.heap.size = G at HF5 HPG ⊢))
  have C0 := Lib.hid (C0'.out G)
  refine wp_region_held_drew (S := fun W => Below w.heap.size w W ∧ Blk W 65 G (frL_9 f)) (by kernel_rfl) (⟨HB5.out.drew, Blk_10.drew HF5.out⟩) (fun hHeld => ?_)
  obtain ⟨X, hX⟩ : ∃ X, w5.drew = X := ⟨_, rfl⟩
  have HPX := Lib.hid (show Blk X 54 w.heap.size ip0 by rw [← hX]; exact Blk_10.drew HP5.out)
  rw [hX] at hHeld ⊢
  clear hX
  refine tk 0 14 (.slice A len cap) rfl hHeld ?_
  simp only [Act.put, sA, sZ, sS]
  refine tk 1 15 (.pointer (some ⟨G, 1, none⟩)) rfl hHeld ?_
  simp only [Act.put, sA, sZ, sS]
  refine tkY 2 16 (.int .i64 (n.total : Int)) rfl (Or.inl ⟨by rfl, fun W hW => by have hc := (C0.out W hW.2).2.1; go_simp⟩) hHeld ?_
  simp only [Act.put, sA, sZ, sS]
  refine tkY 3 17 (.slice A n.total cap) rfl (Or.inl ⟨by rfl, fun W _ => by have hs := HUP.out W; go_simp⟩) hHeld ?_
  simp only [Act.put, sA, sZ, sS]
  refine tk 4 18 (.slice A len cap) rfl hHeld ?_
  simp only [Act.put, sA, sZ, sS]
  refine tk 5 19 (.pointer (some ⟨G, 0, none⟩)) rfl hHeld ?_
  simp only [Act.put, sA, sZ, sS]
  refine tkY 6 20 (.int .i64 (n.head : Int)) rfl (Or.inl ⟨by rfl, fun W hW => by have hc := (C0.out W hW.2).1; go_simp⟩) hHeld ?_
  simp only [Act.put, sA, sZ, sS]
  refine tk 7 21 (.pointer (some ⟨G, 1, none⟩)) rfl hHeld ?_
  simp only [Act.put, sA, sZ, sS]
  refine tkY 8 22 (.int .i64 (n.total : Int)) rfl (Or.inl ⟨by rfl, fun W hW => by have hc := (C0.out W hW.2).2.1; go_simp⟩) hHeld ?_
  simp only [Act.put, sA, sZ, sS]
  refine tkY 9 23 (.slice (cutA A cap n.head) M (cap - n.head)) rfl (Or.inl ⟨by rfl, fun W _ => by have hs := HCU.out W; go_simp⟩) hHeld ?_
  simp only [Act.put, sA, sZ, sS]
  refine tk 10 24 (.pointer (some ⟨G, 5, none⟩)) rfl hHeld ?_
  simp only [Act.put, sA, sZ, sS]
  refine tkY 11 25 (.int .i64 (n.proto : Int)) rfl (Or.inl ⟨by rfl, fun W hW => by have hc := (C0.out W hW.2).2.2.1; go_simp⟩) hHeld ?_
  simp only [Act.put, sA, sZ, sS]
  refine tk 12 26 (.pointer (some ⟨G, 3, none⟩)) rfl hHeld ?_
  simp only [Act.put, sA, sZ, sS]
  refine tkY 13 27 (.bool n.frag) rfl (Or.inl ⟨by rfl, fun W hW => by have hc := (C0.out W hW.2).2.2.2; go_simp⟩) hHeld ?_
  simp only [Act.put, sA, sZ, sS]
  refine tkY 14 28 (.agg (ipL 34525 41 (.slice A n.total cap) (.slice (cutA A cap n.head) M (cap - n.head)) (n.proto : Int) n.frag).toArray) rfl (yields_build (by rfl) 54 _ rfl [(0, .int .i64 34525), (1, .int .i64 41), (2, .slice A n.total cap), (3, .slice (cutA A cap n.head) M (cap - n.head)), (4, .int .i64 (n.proto : Int)), (5, .bool n.frag)] (by kernel_rfl) _ (built_ip _ _ _ _ _ _ _ _ _ _)) hHeld ?_
  simp only [Act.put, sA, sZ, sS]
  refine wpAnyH_ready (rs := [15]) (by kernel_rfl) (by simp) (AllReadyH.cons (o := ⟨none, _, _, _, _, _⟩) rfl (fun K hK => ?_) AllReadyH.nil)
  refine step_storeR_10 rfl 54 _ _ rfl w.heap.size (by rfl) (ipL 34525 41 (.slice A n.total cap) (.slice (cutA A cap n.head) M (cap - n.head)) (n.proto : Int) n.frag) (by rfl) _ HPX.out rfl sizeIp (ipL_one _ _ _ _ _ _ _ _ _ _) ?_
  have HPZ := Lib.hid (Blk_10.setRow_ HPX.out (ipL 34525 41 (.slice A n.total cap) (.slice (cutA A cap n.head) M (cap - n.head)) (n.proto : Int) n.frag))
  refine hK.out _ _ (⟨below_setRow hHeld.1 (Nat.le_refl _) _, Blk_10.setRow_far hHeld.2 (Nat.ne_of_gt HPG.out) _⟩) (fun hHeld => ?_)
  clear hK K 
  refine tk 16 3 (.bool true) rfl hHeld ?_
  simp only [Act.put, sA, sZ, sS]
  refine wpAnyH_done (by kernel_rfl) ?_ _
  go_wp2_with fail
  refine bodyPost_ret (v := .tuple #[.agg (ipL 34525 41 (.slice A n.total cap) (.slice (cutA A cap n.head) M (cap - n.head)) (n.proto : Int) n.frag).toArray, .bool true]) (results_ip rfl _ _ w.heap.size (by rfl) _ rfl HPZ.out _ (by rfl)) rfl ?_
  exact ⟨rfl, hHeld.1⟩
/-- tunnel.sixOf -/
theorem tsix_any (A : Option Addr) (len cap : Nat) (xs : List UInt8) (hlen : len ≤ 1000000) (hcap : len ≤ cap) (hcm : cap ≤ maxLen) (w : World) (hI : Rd w w.heap.size A len xs) :
    Calls Try.prog 38 #[.slice A len cap] w (IpGave w 34525 41 A cap (nt6 xs)) := by
  unfold IpGave ipV
  by_cases h0 : (nt6 xs).e = 0
  · rw [if_pos h0, decide_eq_true h0]
    exact tsix_yes A len cap xs hlen hcap hcm h0 w hI
  · rw [if_neg h0, decide_eq_false h0]
    exact tsix_no A len cap xs hlen hcap hcm h0 w hI
end Go.Proofs.Ytomkfcpellcncaa
