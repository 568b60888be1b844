/-
  packet.netOf: what counts of an IP header, or a panic.
-/
import Derived.Test.YtkmcopenflakkaaKNeed
namespace Go.Proofs.Ytkmcopenflakkaa
open Go.RowKit Go.Lib
/-- The cells of what counts of an IP header. -/
def nwN (n : Nt) : List Value := [.int .i64 (n.head : Int), .int .i64 (n.total : Int), .bool n.frag, .int .i64 (n.proto : Int)]
def nwL (n : Nt) : List Value := nwN n ++ (adL n.s ++ adL n.d)
def nwC (n : Nt) : Value := .agg (nwL n).toArray
structure Nt.Ok (n : Nt) : Prop where
  s : n.s.b.length = 16
  d : n.d.b.length = 16
theorem nwL_len {n : Nt} (h : n.Ok) : (nwL n).length = 38 := by
  unfold nwL
  rw [List.length_append, List.length_append, adL_len h.s, adL_len h.d]
  rfl
theorem nwL_one (n : Nt) : ∀ v ∈ nwL n, v.oneCell' = true := by
  intro v hv
  unfold nwL nwN at hv
  rcases List.mem_append.1 hv with hv | hv
  · simp only [List.mem_cons, List.not_mem_nil, or_false] at hv
    rcases hv with rfl | rfl | rfl | rfl <;> rfl
  · rcases List.mem_append.1 hv with hv | hv
    · exact adL_one _ v hv
    · exact adL_one _ v hv
theorem sizeNw : (Try.prog.info? 108).map (·.size) = some 38 := by kernel_rfl
theorem sizeNwL {n : Nt} (h : n.Ok) : (Try.prog.info? 108).map (·.size) = some (nwL n).length := by rw [nwL_len h]; exact sizeNw
theorem zeroNw : (#[.int .i64 0, .int .i64 0, .bool false, .int .i64 0, .bool false, .int .u8 0, .int .u8 0, .int .u8 0, .int .u8 0, .int .u8 0, .int .u8 0, .int .u8 0, .int .u8 0, .int .u8 0, .int .u8 0, .int .u8 0, .int .u8 0, .int .u8 0, .int .u8 0, .int .u8 0, .int .u8 0, .bool false, .int .u8 0, .int .u8 0, .int .u8 0, .int .u8 0, .int .u8 0, .int .u8 0, .int .u8 0, .int .u8 0, .int .u8 0, .int .u8 0, .int .u8 0, .int .u8 0, .int .u8 0, .int .u8 0, .int .u8 0, .int .u8 0] : Array Value) = (nwL (ntNo 0)).toArray := rfl
theorem built_nw (h t p : Int) (f : Bool) (n : Nt) (hn : n.Ok) (h0 : h = (n.head : Int)) (h1 : t = (n.total : Int)) (h2 : f = n.frag) (h3 : p = (n.proto : Int)) : Try.prog.built 108 [(0, .int .i64 h), (1, .int .i64 t), (2, .bool f), (3, .int .i64 p), (4, adC n.s), (5, adC n.d)] = some (nwL n).toArray := by
  subst h0 h1 h2 h3
  obtain ⟨e, hd, tt, fr, pr, ⟨s6, sb⟩, ⟨d6, db⟩⟩ := n
  obtain ⟨a0, a1, a2, a3, a4, a5, a6, a7, a8, a9, a10, a11, a12, a13, a14, a15, rfl⟩ := sixteen hn.s
  obtain ⟨b0, b1, b2, b3, b4, b5, b6, b7, b8, b9, b10, b11, b12, b13, b14, b15, rfl⟩ := sixteen hn.d
  kernel_rfl
theorem results_nw {fn : Func} {p : Tmp} (hr : fn.results = #[.cell p 108]) (tmps : Array Value) (w : World) (g : Nat) (hp : tmps.getD p undef = .pointer (some ⟨g, 0, none⟩)) (n : Nt) (h : n.Ok) (hb : Blk w 108 g (nwL n)) :
    (results fn tmps).run Try.prog w = .ok (nwC n) w := by
  have hl := run_loadVar_mid (P := Try.prog) w g 0 108 (nwL n) _ (Blk_10.range hb) Try.underlying108 rfl (sizeNwL h)
  rw [results_cell0 hr, hp]
  simp [Result.andThen, asAddr, hl, nwC]
theorem nw_src {w : World} {g : Nat} {n : Nt} (h : Blk w 108 g (nwL n)) : w.rangeAt g 4 (adL n.s) := Blk_10.mid h (pre := nwN n) (post := adL n.d) rfl rfl
theorem nw_dst {w : World} {g : Nat} {n : Nt} (h : Blk w 108 g (nwL n)) (ho : n.Ok) : w.rangeAt g 21 (adL n.d) := Blk_10.mid h (pre := nwN n ++ adL n.s) (post := []) (by simp [nwL]) (by rw [List.length_append, adL_len ho.s]; rfl)
theorem nw_cells {w : World} {g : Nat} {n : Nt} (h : Blk w 108 g (nwL n)) : w.cell? ⟨g, 0, none⟩ = some (.int .i64 (n.head : Int)) ∧ w.cell? ⟨g, 1, none⟩ = some (.int .i64 (n.total : Int)) ∧ w.cell? ⟨g, 2, none⟩ = some (.bool n.frag) ∧ w.cell? ⟨g, 3, none⟩ = some (.int .i64 (n.proto : Int)) :=
  ⟨Blk_10.cell h rfl, Blk_10.cell h rfl, Blk_10.cell h rfl, Blk_10.cell h rfl⟩
set_option maxHeartbeats 2000000 in
theorem netof_no (k : Int) (h4 : k ≠ 2048) (h6 : k ≠ 34525) (A : Option Addr) (len cap : Nat) (w : World) : Calls Try.prog 60 #[.int .i64 k, .slice A len cap] w fun e w' => e = .panicked (gave 2) ∧ Below w.heap.size w w' := by
  obtain ⟨Z, hZ⟩ : ∃ Z : World, w.alloc (.cells (nwL (ntNo 0)).toArray 108) = Z := ⟨_, rfl⟩
  have HB := Lib.hid (show Below w.heap.size w Z by rw [← hZ]; exact (Below.refl w.heap.size w).alloc (Nat.le_refl _) _)
  rw [← zeroNw] at hZ
  have HZ := Lib.hid hZ
  have b4 : (k == 2048) = false := beq_eq_false_iff_ne.2 h4
  have b6 : (k == 34525) = false := beq_eq_false_iff_ne.2 h6
  clear hZ h4 h6
  go_enter Try.func60, Try.ntmps60
  go_wp2_with fail
  exact ⟨rfl, rfl, by rw [HZ.out]; exact HB.out⟩
set_option maxHeartbeats 4000000 in
theorem netof_4 (A : Option Addr) (len cap : Nat) (xs : List UInt8) (hlen : len ≤ 1000000) (hcap : len ≤ cap) (hcm : cap ≤ maxLen) (h0 : (nt4 xs).e = 0) (w : World) (hI : Rd w w.heap.size A len xs) :
    Calls Try.prog 60 #[.int .i64 2048, .slice A len cap] w fun e w' => e = .returned (nwC (nt4 xs)) ∧ Below w.heap.size w w' := by
  obtain ⟨Z, hZ⟩ : ∃ Z : World, w.alloc (.cells (nwL (ntNo 0)).toArray 108) = Z := ⟨_, rfl⟩
  have HP := Lib.hid (show Blk Z 108 w.heap.size (nwL (ntNo 0)) by rw [← hZ]; exact Blk_10.new w _ _)
  have HB := Lib.hid (show Below w.heap.size w Z by rw [← hZ]; exact (Below.refl w.heap.size w).alloc (Nat.le_refl _) _)
  rw [← zeroNw] at hZ
  have HZ := Lib.hid hZ
  have HR := Lib.hid (read_any_8 A len cap xs hlen hcap hcm Z ((hI.below HB.out).more HB.out.size))
  unfold ReadGave_8 at HR
  have NE := Lib.hid (nt4_e xs)
  have HNF := Lib.hid (nt4_fr xs)
  have NS := Lib.hid (nt4_fits xs)
  have HFO := Lib.hid (rdF_ok xs)
  obtain ⟨n, hn⟩ : ∃ n, nt4 xs = n := ⟨_, rfl⟩
  obtain ⟨f, hf⟩ : ∃ f, rdF xs = f := ⟨_, rfl⟩
  obtain ⟨E2, hE2⟩ : ∃ E, faultN xs = E := ⟨_, rfl⟩
  rw [hn] at h0 NE HNF NS ⊢
  rw [hf] at HR HNF HFO
  rw [hE2] at HR NE
  have HNO := Lib.hid (show n.Ok from ⟨NS.out.s, NS.out.d⟩)
  have e0 : E2 = 0 := NE.out.symm.trans h0
  subst e0
  clear hZ hI hn hf hE2 h0
  go_enter Try.func60, Try.ntmps60
  go_wp2_with fail
  rw [HZ.out]
  refine HR.out.mono ?_
  rintro e w4 ⟨rfl, hb4⟩
  have HB4 := Lib.hid (HB.out.trans (hb4.mono HB.out.size))
  have HP4 := Lib.hid (HP.out.below HP.out.lt hb4)
  clear hb4
  go_wp2_with (((with_reducible show wpList _ _ _ (⟨none, .store 64 (.tmp 5) (.tmp 15), _, _, _, _⟩ :: _) _ _); refine wpList_storeNewG (op := ⟨none, .store 64 (.tmp 5) (.tmp 15), _, _, _, _⟩) rfl 64 _ _ rfl (by rfl) (frL_8 f) (by rfl) (by rw [frL_len_8 HFO.out]; rfl) (sizeFrL_8 HFO.out) (frL_one_8 _) ?_; intro w5 hf5 hb5 hz5; clear hz5; have HB5 := Lib.hid (HB4.out.trans (hb5.mono HB4.out.size)); have HP5 := Lib.hid (HP4.out.below HP4.out.lt hb5); have c0 := Blk_8.cell hf5 (i := 0) (v := .int .i64 (n.head : Int)) (by rw [← HNF.out.1]; rfl); have c1 := Blk_8.cell hf5 (i := 1) (v := .int .i64 (n.total : Int)) (by rw [← HNF.out.2.1]; rfl); have c4 := Blk_8.cell hf5 (i := 4) (v := .bool n.frag) (by rw [← HNF.out.2.2.1]; rfl); have c7 := Blk_8.cell hf5 (i := 7) (v := .int .i64 (n.proto : Int)) (by rw [← HNF.out.2.2.2.1]; rfl); have HA0 : Hid (w5.rangeAt w4.heap.size 8 (adL n.s)) := Lib.hid (by rw [← HNF.out.2.2.2.2.1]; exact Blk_8.src hf5); have HA1 : Hid (w5.rangeAt w4.heap.size 25 (adL n.d)) := Lib.hid (by rw [← HNF.out.2.2.2.2.2]; exact Blk_8.dst hf5 HFO.out); clear hf5 hb5))
  refine (need_yes 3 _).mono ?_
  rintro e w6 ⟨rfl, rfl⟩
  go_wp2_with (first
    | ((with_reducible show wpList _ _ _ (⟨some 29, _, _, _, _, _⟩ :: _) _ _); refine wpList_loadAd (op := ⟨some 29, _, _, _, _, _⟩) _ rfl (by rfl) w4.heap.size 8 (by rfl) n.s NS.out.s HA0.out ?_)
    | ((with_reducible show wpList _ _ _ (⟨some 31, _, _, _, _, _⟩ :: _) _ _); refine wpList_loadAd (op := ⟨some 31, _, _, _, _, _⟩) _ rfl (by rfl) w4.heap.size 25 (by rfl) n.d NS.out.d HA1.out ?_)
    | ((with_reducible show wpList _ _ _ (⟨some 32, _, _, _, _, _⟩ :: _) _ _); refine wpList_buildw (op := ⟨some 32, _, _, _, _, _⟩) 108 _ rfl (by rfl) _ (by kernel_rfl) (nwL n).toArray (built_nw _ _ _ _ n HNO.out rfl rfl rfl rfl) ?_)
    | ((with_reducible show wpList _ _ _ (⟨none, .store 108 (.tmp 4) _, _, _, _, _⟩ :: _) _ _); refine wpList_storeR_10 rfl 108 _ _ rfl w.heap.size (by rfl) (nwL n) (by rfl) _ HP5.out (by rw [nwL_len HNO.out]; rfl) (sizeNwL HNO.out) (nwL_one _) ?_))
  refine bodyPost_ret (v := nwC n) (results_nw rfl _ _ w.heap.size (by rfl) _ HNO.out (Blk_10.setRow_ HP5.out _)) rfl ?_
  exact ⟨rfl, below_setRow HB5.out (Nat.le_refl _) _⟩
set_option maxHeartbeats 4000000 in
theorem netof_4no (A : Option Addr) (len cap : Nat) (xs : List UInt8) (hlen : len ≤ 1000000) (hcap : len ≤ cap) (hcm : cap ≤ maxLen) (h0 : (nt4 xs).e ≠ 0) (w : World) (hI : Rd w w.heap.size A len xs) :
    Calls Try.prog 60 #[.int .i64 2048, .slice A len cap] w fun e w' => e = .panicked (gave 3) ∧ Below w.heap.size w w' := by
  obtain ⟨Z, hZ⟩ : ∃ Z : World, w.alloc (.cells (nwL (ntNo 0)).toArray 108) = Z := ⟨_, rfl⟩
  have HP := Lib.hid (show Blk Z 108 w.heap.size (nwL (ntNo 0)) by rw [← hZ]; exact Blk_10.new w _ _)
  have HB := Lib.hid (show Below w.heap.size w Z by rw [← hZ]; exact (Below.refl w.heap.size w).alloc (Nat.le_refl _) _)
  rw [← zeroNw] at hZ
  have HZ := Lib.hid hZ
  have HR := Lib.hid (read_any_8 A len cap xs hlen hcap hcm Z ((hI.below HB.out).more HB.out.size))
  unfold ReadGave_8 at HR
  have NE := Lib.hid (nt4_e xs)
  have HNF := Lib.hid (nt4_fr xs)
  have NS := Lib.hid (nt4_fits xs)
  have HFO := Lib.hid (rdF_ok xs)
  obtain ⟨n, hn⟩ : ∃ n, nt4 xs = n := ⟨_, rfl⟩
  obtain ⟨f, hf⟩ : ∃ f, rdF xs = f := ⟨_, rfl⟩
  obtain ⟨E2, hE2⟩ : ∃ E, faultN xs = E := ⟨_, rfl⟩
  rw [hn] at h0 NE HNF NS
  rw [hf] at HR HNF HFO
  rw [hE2] at HR NE
  have HNO := Lib.hid (show n.Ok from ⟨NS.out.s, NS.out.d⟩)
  have hne : E2 ≠ 0 := fun h => h0 (NE.out.trans h)
  have bE : ((E2 : Int) == 0) = false := by simp; omega
  have bE2 : (E2 == 0) = false := by simp [hne]
  clear hne
  clear hZ hI hn hf hE2 h0
  go_enter Try.func60, Try.ntmps60
  go_wp2_with fail
  rw [HZ.out]
  refine HR.out.mono ?_
  rintro e w4 ⟨rfl, hb4⟩
  have HB4 := Lib.hid (HB.out.trans (hb4.mono HB.out.size))
  have HP4 := Lib.hid (HP.out.below HP.out.lt hb4)
  clear hb4
  go_wp2_with (((with_reducible show wpList _ _ _ (⟨none, .store 64 (.tmp 5) (.tmp 15), _, _, _, _⟩ :: _) _ _); refine wpList_storeNewG (op := ⟨none, .store 64 (.tmp 5) (.tmp 15), _, _, _, _⟩) rfl 64 _ _ rfl (by rfl) (frL_8 f) (by rfl) (by rw [frL_len_8 HFO.out]; rfl) (sizeFrL_8 HFO.out) (frL_one_8 _) ?_; intro w5 hf5 hb5 hz5; clear hz5; have HB5 := Lib.hid (HB4.out.trans (hb5.mono HB4.out.size)); have HP5 := Lib.hid (HP4.out.below HP4.out.lt hb5); clear hf5 hb5))
  refine (need_no 3 _).mono ?_
  rintro e w6 ⟨rfl, rfl⟩
  exact ⟨rfl, rfl, HB5.out⟩
set_option maxHeartbeats 4000000 in
theorem netof_6 (A : Option Addr) (len cap : Nat) (xs : List UInt8) (hlen : len ≤ 1000000) (hcap : len ≤ cap) (hcm : cap ≤ maxLen) (h0 : (nt6 xs).e = 0) (w : World) (hI : Rd w w.heap.size A len xs) :
    Calls Try.prog 60 #[.int .i64 34525, .slice A len cap] w fun e w' => e = .returned (nwC (nt6 xs)) ∧ Below w.heap.size w w' := by
  obtain ⟨Z, hZ⟩ : ∃ Z : World, w.alloc (.cells (nwL (ntNo 0)).toArray 108) = Z := ⟨_, rfl⟩
  have HP := Lib.hid (show Blk Z 108 w.heap.size (nwL (ntNo 0)) by rw [← hZ]; exact Blk_10.new w _ _)
  have HB := Lib.hid (show Below w.heap.size w Z by rw [← hZ]; exact (Below.refl w.heap.size w).alloc (Nat.le_refl _) _)
  rw [← zeroNw] at hZ
  have HZ := Lib.hid hZ
  have HR := Lib.hid (read_any_9 A len cap xs hlen hcap hcm Z ((hI.below HB.out).more HB.out.size))
  unfold ReadGave_9 at HR
  have NE := Lib.hid (nt6_e xs)
  have HNF := Lib.hid (nt6_fr xs)
  have NS := Lib.hid (nt6_fits xs)
  have HFO := Lib.hid (rdF_ok_9 xs)
  obtain ⟨n, hn⟩ : ∃ n, nt6 xs = n := ⟨_, rfl⟩
  obtain ⟨f, hf⟩ : ∃ f, rdF_9 xs = f := ⟨_, rfl⟩
  obtain ⟨E2, hE2⟩ : ∃ E, rdN xs = E := ⟨_, rfl⟩
  rw [hn] at h0 NE HNF NS ⊢
  rw [hf] at HR HNF HFO
  rw [hE2] at HR NE
  have HNO := Lib.hid (show n.Ok from ⟨NS.out.s, NS.out.d⟩)
  have e0 : E2 = 0 := NE.out.symm.trans h0
  subst e0
  clear hZ hI hn hf hE2 h0
  go_enter Try.func60, Try.ntmps60
  go_wp2_with fail
  rw [HZ.out]
  refine HR.out.mono ?_
  rintro e w4 ⟨rfl, hb4⟩
  have HB4 := Lib.hid (HB.out.trans (hb4.mono HB.out.size))
  have HP4 := Lib.hid (HP.out.below HP.out.lt hb4)
  clear hb4
  go_wp2_with (((with_reducible show wpList _ _ _ (⟨none, .store 68 (.tmp 7) (.tmp 38), _, _, _, _⟩ :: _) _ _); refine wpList_storeNewG (op := ⟨none, .store 68 (.tmp 7) (.tmp 38), _, _, _, _⟩) rfl 68 _ _ rfl (by rfl) (frL_9 f) (by rfl) (by rw [frL_len_9 HFO.out]; rfl) (sizeFrL_9 HFO.out) (frL_one_9 _) ?_; intro w5 hf5 hb5 hz5; clear hz5; have HB5 := Lib.hid (HB4.out.trans (hb5.mono HB4.out.size)); have HP5 := Lib.hid (HP4.out.below HP4.out.lt hb5); have c0 := Blk_9.cell hf5 (i := 0) (v := .int .i64 (n.head : Int)) (by rw [← HNF.out.1]; rfl); have c1 := Blk_9.cell hf5 (i := 1) (v := .int .i64 (n.total : Int)) (by rw [← HNF.out.2.1]; rfl); have c4 := Blk_9.cell hf5 (i := 3) (v := .bool n.frag) (by rw [← HNF.out.2.2.1]; rfl); have c7 := Blk_9.cell hf5 (i := 5) (v := .int .i64 (n.proto : Int)) (by rw [← HNF.out.2.2.2.1]; rfl); have HA0 : Hid (w5.rangeAt w4.heap.size 6 (adL n.s)) := Lib.hid (by rw [← HNF.out.2.2.2.2.1]; exact Blk_9.src hf5); have HA1 : Hid (w5.rangeAt w4.heap.size 23 (adL n.d)) := Lib.hid (by rw [← HNF.out.2.2.2.2.2]; exact Blk_9.dst hf5 HFO.out); clear hf5 hb5))
  refine (need_yes 3 _).mono ?_
  rintro e w6 ⟨rfl, rfl⟩
  go_wp2_with (first
    | ((with_reducible show wpList _ _ _ (⟨some 52, _, _, _, _, _⟩ :: _) _ _); refine wpList_loadAd (op := ⟨some 52, _, _, _, _, _⟩) _ rfl (by rfl) w4.heap.size 6 (by rfl) n.s NS.out.s HA0.out ?_)
    | ((with_reducible show wpList _ _ _ (⟨some 54, _, _, _, _, _⟩ :: _) _ _); refine wpList_loadAd (op := ⟨some 54, _, _, _, _, _⟩) _ rfl (by rfl) w4.heap.size 23 (by rfl) n.d NS.out.d HA1.out ?_)
    | ((with_reducible show wpList _ _ _ (⟨some 55, _, _, _, _, _⟩ :: _) _ _); refine wpList_buildw (op := ⟨some 55, _, _, _, _, _⟩) 108 _ rfl (by rfl) _ (by kernel_rfl) (nwL n).toArray (built_nw _ _ _ _ n HNO.out rfl rfl rfl rfl) ?_)
    | ((with_reducible show wpList _ _ _ (⟨none, .store 108 (.tmp 4) _, _, _, _, _⟩ :: _) _ _); refine wpList_storeR_10 rfl 108 _ _ rfl w.heap.size (by rfl) (nwL n) (by rfl) _ HP5.out (by rw [nwL_len HNO.out]; rfl) (sizeNwL HNO.out) (nwL_one _) ?_))
  refine bodyPost_ret (v := nwC n) (results_nw rfl _ _ w.heap.size (by rfl) _ HNO.out (Blk_10.setRow_ HP5.out _)) rfl ?_
  exact ⟨rfl, below_setRow HB5.out (Nat.le_refl _) _⟩
set_option maxHeartbeats 4000000 in
theorem netof_6no (A : Option Addr) (len cap : Nat) (xs : List UInt8) (hlen : len ≤ 1000000) (hcap : len ≤ cap) (hcm : cap ≤ maxLen) (h0 : (nt6 xs).e ≠ 0) (w : World) (hI : Rd w w.heap.size A len xs) :
    Calls Try.prog 60 #[.int .i64 34525, .slice A len cap] w fun e w' => e = .panicked (gave 3) ∧ Below w.heap.size w w' := by
  obtain ⟨Z, hZ⟩ : ∃ Z : World, w.alloc (.cells (nwL (ntNo 0)).toArray 108) = Z := ⟨_, rfl⟩
  have HP := Lib.hid (show Blk Z 108 w.heap.size (nwL (ntNo 0)) by rw [← hZ]; exact Blk_10.new w _ _)
  have HB := Lib.hid (show Below w.heap.size w Z by rw [← hZ]; exact (Below.refl w.heap.size w).alloc (Nat.le_refl _) _)
  rw [← zeroNw] at hZ
  have HZ := Lib.hid hZ
  have HR := Lib.hid (read_any_9 A len cap xs hlen hcap hcm Z ((hI.below HB.out).more HB.out.size))
  unfold ReadGave_9 at HR
  have NE := Lib.hid (nt6_e xs)
  have HNF := Lib.hid (nt6_fr xs)
  have NS := Lib.hid (nt6_fits xs)
  have HFO := Lib.hid (rdF_ok_9 xs)
  obtain ⟨n, hn⟩ : ∃ n, nt6 xs = n := ⟨_, rfl⟩
  obtain ⟨f, hf⟩ : ∃ f, rdF_9 xs = f := ⟨_, rfl⟩
  obtain ⟨E2, hE2⟩ : ∃ E, rdN xs = E := ⟨_, rfl⟩
  rw [hn] at h0 NE HNF NS
  rw [hf] at HR HNF HFO
  rw [hE2] at HR NE
  have HNO := Lib.hid (show n.Ok from ⟨NS.out.s, NS.out.d⟩)
  have hne : E2 ≠ 0 := fun h => h0 (NE.out.trans h)
  have bE : ((E2 : Int) == 0) = false := by simp; omega
  have bE2 : (E2 == 0) = false := by simp [hne]
  clear hne
  clear hZ hI hn hf hE2 h0
  go_enter Try.func60, Try.ntmps60
  go_wp2_with fail
  rw [HZ.out]
  refine HR.out.mono ?_
  rintro e w4 ⟨rfl, hb4⟩
  have HB4 := Lib.hid (HB.out.trans (hb4.mono HB.out.size))
  have HP4 := Lib.hid (HP.out.below HP.out.lt hb4)
  clear hb4
  go_wp2_with (((with_reducible show wpList _ _ _ (⟨none, .store 68 (.tmp 7) (.tmp 38), _, _, _, _⟩ :: _) _ _); refine wpList_storeNewG (op := ⟨none, .store 68 (.tmp 7) (.tmp 38), _, _, _, _⟩) rfl 68 _ _ rfl (by rfl) (frL_9 f) (by rfl) (by rw [frL_len_9 HFO.out]; rfl) (sizeFrL_9 HFO.out) (frL_one_9 _) ?_; intro w5 hf5 hb5 hz5; clear hz5; have HB5 := Lib.hid (HB4.out.trans (hb5.mono HB4.out.size)); have HP5 := Lib.hid (HP4.out.below HP4.out.lt hb5); clear hf5 hb5))
  refine (need_no 3 _).mono ?_
  rintro e w6 ⟨rfl, rfl⟩
  exact ⟨rfl, rfl, HB5.out⟩
end Go.Proofs.Ytkmcopenflakkaa
