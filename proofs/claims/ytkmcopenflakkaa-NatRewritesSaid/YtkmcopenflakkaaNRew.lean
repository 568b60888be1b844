/-
  (nat.places).rewritten.
-/
import Derived.Test.YtkmcopenflakkaaNCopy
import Derived.Test.YtkmcopenflakkaaQ6
namespace Go.Proofs.Ytkmcopenflakkaa
set_option maxRecDepth 100000
open Go.RowKit Go.Lib

theorem at_world {P : Program} {ops : Array Oper} {Q : Exit → Act → World → Prop} {rest : List Oper} {a : Act} {W : World} (H : World → Prop) (hW : H W) (h : ∀ W', H W' → wpList P ops Q rest a W') : wpList P ops Q rest a W := h W hW
theorem be2_cellsN (m : Nat) (hm : m < 65536) : (#[.int .u8 ((m : Int) / 256), .int .u8 ((m : Int) % 256)] : Array Value) = ((be2 m).map v8).toArray := by
  unfold be2
  simp only [List.map_cons, List.map_nil]
  rw [v8_of (m / 256) (by omega), v8_of (m % 256) (by omega)]
  rfl
theorem headL_part {q : Pl} {xs old new : List UInt8} {p k : Nat} (h : q.hd = 0 ∨ q.hd + 2 ≤ p) : ((headL q xs old new).drop p).take k = (xs.drop p).take k := by
  unfold headL
  split
  · rw [setL_part (by rw [be2_len]; omega)]
  · rfl
theorem headL_wne {q : Pl} {xs old new : List UInt8} {i : Nat} (h : q.hd = 0 ∨ q.hd + 2 ≤ i) : wat (headL q xs old new) i = wat xs i := by
  unfold wat
  rw [headL_bne (by omega), headL_bne (by omega)]
theorem new_two (W : World) (m : Nat) (hm : m < 65536) : Row8 (W.alloc (.cells #[.int .u8 ((m : Int) / 256), .int .u8 ((m : Int) % 256)] 5)) W.heap.size (be2 m) := by
  rw [be2_cellsN m hm]
  exact heap_alloc_new W _

set_option maxHeartbeats 16000000 in
theorem nrew_4 (x0 x1 x2 x3 : Int) {ad pt hd ck : Nat} (u : Bool) {a : Ad} (ha : a.b.length = 16) {m : Nat} (hm : m < 65536) {A : Option Addr} {len cap : Nat} {xs : List UInt8} (hq : Pl.Ok (⟨ad, pt, hd, ck, u⟩ : Pl) 4 len) (h0 : 0 < hd) (hlen : len ≤ 100000) (w : World) (hI : Rd w w.heap.size A len xs) :
    Calls Try.prog 24 #[plcC x0 x1 x2 x3 4 (hd : Int) (ck : Int) u, .slice A len cap, endC (ad : Int) (pt : Int), adC a, .int .i64 (m : Int)] w fun e w' => ∃ v, e = .returned v ∧ Own8 w' w.heap.size v (rewL (⟨ad, pt, hd, ck, u⟩ : Pl) xs (a.b.take 4) m) ∧ Below w.heap.size w w' := by
  have q1 := hq.h
  have q2 : ad + 4 ≤ pt := hq.a
  have q3 : pt + 2 ≤ ck := hq.p
  have q4 : ck + 2 ≤ len := hq.k
  have hxl := hI.len
  obtain ⟨Y, hY, hp, he, haq, hbel⟩ := box3 w (plcL x0 x1 x2 x3 4 (hd : Int) (ck : Int) u) [.int .i64 (ad : Int), .int .i64 (pt : Int)] (adL a) 57 55 25
  have hnl : (a.b.take 4).length = 4 := by rw [List.length_take, ha]; rfl
  have HC := Lib.hid (clone_any A len cap xs (by omega) Y (hI.below hbel) hbel.size)
  have HCUT := Lib.hid (fun (g c1 : Nat) (h : len ≤ c1) W => show (Instr.slice 22 (.slice (some ⟨g, 0, none⟩) len c1) (some (.int .i64 (ad : Int))) (some (.int .i64 ((ad : Int) + 4))) none).run Try.prog W = .ok (.slice (some ⟨g, ad, none⟩) 4 (c1 - ad)) W by
    rw [run_cut8 _ len c1 ad 4 (ad : Int) ((ad : Int) + 4) rfl (by omega) (by omega)]
    unfold cutA
    rw [if_neg (by omega)]
    simp [add_plain])
  have HCUP := Lib.hid (fun (g c1 : Nat) (h : len ≤ c1) W => show (Instr.slice 22 (.slice (some ⟨g, 0, none⟩) len c1) (some (.int .i64 (pt : Int))) (some (.int .i64 ((pt : Int) + 2))) none).run Try.prog W = .ok (.slice (some ⟨g, pt, none⟩) 2 (c1 - pt)) W by
    rw [run_cut8 _ len c1 pt 2 (pt : Int) ((pt : Int) + 2) rfl (by omega) (by omega)]
    unfold cutA
    rw [if_neg (by omega)]
    simp [add_plain])
  -- a part of what the call owns, read
  have HPART := Lib.hid (fun (W : World) (b0 g c1 : Nat) (h : len ≤ c1) (zs : List UInt8) (hz : zs.length = len) (ho : Own8 W b0 (.slice (some ⟨g, 0, none⟩) len c1) zs) (l k : Nat) (hk : l + k ≤ len) (hk0 : 0 < k) => show Rd W W.heap.size (some ⟨g, l, none⟩) k ((zs.drop l).take k) by
    obtain ⟨_, _, hr⟩ := ho.rdN hz
    have := hr.cut (l := l) (n := k) hk c1 h
    unfold cutA at this
    rw [if_neg (by omega)] at this
    simpa [add_plain] using this)
  have HNEW := Lib.hid (fun W (h : Blk W 25 (w.heap.size + 1 + 1) (adL a)) => show Rd W W.heap.size (some ⟨w.heap.size + 1 + 1, 1, none⟩) 4 (a.b.take 4) from (range_rd (Blk_8.adB h) ha (Blk_10.lt h)).take (k := 4) (by decide))
  have w1 : IntKind.i64.wrap ((ad : Int) + 4) = (ad : Int) + 4 := by rw [IntKind.wrap_i64]; omega
  have w2 : IntKind.i64.wrap ((pt : Int) + 2) = (pt : Int) + 2 := by rw [IntKind.wrap_i64]; omega
  have w3 : IntKind.i64.wrap ((m : Int) / 256) = (m : Int) / 256 := by rw [IntKind.wrap_i64]; omega
  have w4 : IntKind.u8.wrap ((m : Int) / 256) = (m : Int) / 256 := by rw [IntKind.wrap_u8]; omega
  have w5 : IntKind.u8.wrap (m : Int) = (m : Int) % 256 := by rw [IntKind.wrap_u8]
  have HXL := Lib.hid hxl
  have HNL := Lib.hid hnl
  have HN2 := Lib.hid (fun W => new_two W m hm)
  have hd2 : hd + 2 ≤ ad := by
    rcases q1 with h | h
    · exact absurd h (by show ¬ hd = 0; omega)
    · exact h
  have hbh : decide ((0 : Int) < (hd : Int)) = true := decide_eq_true (by omega)
  have hbh2 : (0 : Int) < (hd : Int) := by omega
  unfold plcC endC
  have E2 := Lib.hid (show adC a = .agg (adL a).toArray from rfl)
  rw [E2.out]
  obtain ⟨C0, hC0⟩ : ∃ C, (plcL x0 x1 x2 x3 4 (hd : Int) (ck : Int) u).toArray = C := ⟨_, rfl⟩
  obtain ⟨C2, hC2⟩ : ∃ C, (adL a).toArray = C := ⟨_, rfl⟩
  rw [hC0, hC2] at hY
  rw [hC0, hC2]
  obtain ⟨olds, hol⟩ : ∃ z, (xs.drop ad).take 4 = z := ⟨_, rfl⟩
  obtain ⟨oldp, hop⟩ : ∃ z, (xs.drop pt).take 2 = z := ⟨_, rfl⟩
  obtain ⟨news, hnw⟩ : ∃ z, a.b.take 4 = z := ⟨_, rfl⟩
  obtain ⟨ys, hys⟩ : ∃ z, headL (⟨ad, pt, hd, ck, u⟩ : Pl) xs olds news = z := ⟨_, rfl⟩
  rw [hnw] at hnl HNL HNEW ⊢
  have hll : olds.length = 4 := by rw [← hol]; exact part_len (by omega)
  have hlp : oldp.length = 2 := by rw [← hop]; exact part_len (by omega)
  have HYL := Lib.hid (show ys.length = len by rw [← hys, headL_len]; exact hxl)
  have HY1 := Lib.hid (show (ys.drop ad).take 4 = olds by
    rw [← hys, ← hol]
    exact headL_part (Or.inr (show hd + 2 ≤ ad by omega)))
  have HY2 := Lib.hid (show (ys.drop pt).take 2 = oldp by
    rw [← hys, ← hop]
    exact headL_part (Or.inr (show hd + 2 ≤ pt by omega)))
  have HY3 := Lib.hid (show wat ys ck = wat xs ck by
    rw [← hys]
    exact headL_wne (Or.inr (show hd + 2 ≤ ck by omega)))
  have hwc := wat_lt xs ck
  obtain ⟨wc, hwce⟩ : ∃ z, wat xs ck = z := ⟨_, rfl⟩
  have HR1 := Lib.hid (show rewL (⟨ad, pt, hd, ck, u⟩ : Pl) xs news m = setL (setL (setL ys ck (be2 (numW u wc olds news oldp (be2 m)))) ad news) pt (be2 m) by
    unfold rewL
    rw [hnl, hol, hop, hwce, hys])
  have HIDL := Lib.hid (fun (h : u = true ∧ wc = 0) => show setL ys ck (be2 (numW u wc olds news oldp (be2 m))) = ys by
    rw [numW_idle h, ← h.2, ← hwce, ← HY3.out]
    exact setL_two ys ck (by rw [HYL.out]; omega))
  have HNID := Lib.hid (fun (h : ¬ (u = true ∧ wc = 0)) => show numW u wc olds news oldp (be2 m) = numS u (changedOf (changedOf wc olds news) oldp (be2 m)) from if_neg h)
  have HCH := Lib.hid (fun (c : Nat) (hc : c < 65536) (W : World) (A1 A2 : Option Addr) (c1 c2 : Nat) (h1 : Rd W W.heap.size A1 4 olds) (h2 : Rd W W.heap.size A2 4 news) => changed_any c hc A1 4 c1 olds (by decide) A2 4 c2 news (by decide) W h1 h2)
  have HCP := Lib.hid (fun (c : Nat) (hc : c < 65536) (W : World) (A1 A2 : Option Addr) (c1 c2 : Nat) (h1 : Rd W W.heap.size A1 2 oldp) (h2 : Rd W W.heap.size A2 2 (be2 m)) => changed_any c hc A1 2 c1 oldp (by decide) A2 2 c2 (be2 m) (by decide) W h1 h2)
  have HLE := Lib.hid (show changedOf wc olds news ≤ 65535 from ch_le (by omega) (by rw [hnl, hll]))
  have HLE2 := Lib.hid (show changedOf (changedOf wc olds news) oldp (be2 m) ≤ 65535 from ch_le HLE.out (by rw [be2_len, hlp]))
  have hwh := wat_lt xs hd
  have HHE := Lib.hid (show ys = setL xs hd (be2 (changedOf (wat xs hd) olds news)) by
    rw [← hys]
    exact if_pos h0)
  have HLH := Lib.hid (show changedOf (wat xs hd) olds news ≤ 65535 from ch_le (by omega) (by rw [hnl, hll]))
  obtain ⟨wh, hwhe⟩ : ∃ z, wat xs hd = z := ⟨_, rfl⟩
  rw [hwhe] at HHE HLH hwh
  have HWH := Lib.hid hwhe
  rw [hwce] at HY3 hwc
  have HOL := Lib.hid hol
  have HOP := Lib.hid hop
  have HY := Lib.hid hY
  have HP := Lib.hid hp
  have HE := Lib.hid he
  have HA := Lib.hid haq
  have HB := Lib.hid hbel
  have HPC := Lib.hid (fun W (h : Blk W 57 w.heap.size (plcL x0 x1 x2 x3 4 (hd : Int) (ck : Int) u)) => show W.cell? ⟨w.heap.size, 4, none⟩ = some (.int .i64 4) ∧ W.cell? ⟨w.heap.size, 5, none⟩ = some (.int .i64 (hd : Int)) ∧ W.cell? ⟨w.heap.size, 6, none⟩ = some (.int .i64 (ck : Int)) ∧ W.cell? ⟨w.heap.size, 7, none⟩ = some (.bool u) from ⟨Blk_10.cell h rfl, Blk_10.cell h rfl, Blk_10.cell h rfl, Blk_10.cell h rfl⟩)
  have hYs : w.heap.size + 1 + 1 < Y.heap.size := Blk_10.lt haq
  have NM1 := Lib.hid (show ck ≤ 1000000 by omega)
  have NM2 := Lib.hid (show ck + 2 ≤ len by omega)
  have NA := Lib.hid (show ad + 4 ≤ len by omega)
  have NP := Lib.hid (show pt + 2 ≤ len by omega)
  have NH1 := Lib.hid (show hd ≤ 1000000 by omega)
  have NH2 := Lib.hid (show hd + 2 ≤ len by omega)
  clear hq q1 q2 q3 q4 hxl hnl hY hp he haq hbel hI hC0 hC2 hol hop hnw hys hll hlp hwce ha hm hd2 hwhe h0
  go_enter Try.func24, Try.ntmps24
  go_wp2_with fail
  rw [HY.out]
  refine HC.out.mono ?_
  rintro e w1 ⟨v1, rfl, ho1, hb1⟩
  obtain ⟨g, c1, rfl, hlc, hcm, hgb, hgl, _⟩ := ho1.formG HXL.out (Nat.lt_of_lt_of_le (by decide) (Nat.le_trans (Nat.le_add_left 2 ck) NM2.out))
  have HP1 := Lib.hid (HP.out.below HP.out.lt hb1)
  have HE1 := Lib.hid (HE.out.below HE.out.lt hb1)
  have HA1 := Lib.hid (HA.out.below HA.out.lt hb1)
  have HB1 := Lib.hid (HB.out.trans (hb1.mono HB.out.size))
  have HO1 := Lib.hid ho1
  have HLC := Lib.hid hlc
  have HGB := Lib.hid (show w.heap.size + 1 + 1 < g from Nat.lt_of_lt_of_le hYs hgb)
  have HGL := Lib.hid hgl
  obtain ⟨p4, p5, p6, p7⟩ := HPC.out w1 HP1.out
  have e0 : w1.cell? ⟨w.heap.size + 1, 0, none⟩ = some (.int .i64 (ad : Int)) := Blk_10.cell HE1.out rfl
  have e1 : w1.cell? ⟨w.heap.size + 1, 1, none⟩ = some (.int .i64 (pt : Int)) := Blk_10.cell HE1.out rfl
  have hcu := HCUT.out g c1 hlc
  have hcp := HCUP.out g c1 hlc
  have hwb : w.heap.size ≤ Y.heap.size := HB.out.size
  have HWB := Lib.hid hwb
  have HYG := Lib.hid hgb
  clear ho1 hb1 hlc hcm hgb hgl hYs hwb
  go_wp2_with fail
  go_quiet (fail)
  go_wp2_with (((with_reducible show wpList _ _ _ (⟨some 47, _, _, _, _, _⟩ :: _) _ _); refine at_world (fun W => Row8 W w1.heap.size (be2 m) ∧ Below w1.heap.size w1 W) ⟨HN2.out _, (below_drewN (Below.refl _ w1) _).alloc (Nat.le_refl _) _⟩ ?_; rintro w2 ⟨hrow, hb2⟩; clear p4 p5 p6 p7 e0 e1 hcu hcp; have HP2 := Lib.hid (HP1.out.below HP1.out.lt hb2); have HA2 := Lib.hid (HA1.out.below HA1.out.lt hb2); have HO2 := Lib.hid (HO1.out.below hb2); have HB2 := Lib.hid (HB1.out.trans (hb2.mono HB1.out.size)); have HN2 := Lib.hid hrow; have HGL2 := Lib.hid (Nat.lt_of_lt_of_le HGL.out hb2.size); have HNG : Hid (w1.heap.size ≠ g) := Lib.hid (fun e => Nat.lt_irrefl _ (e ▸ HGL.out)); obtain ⟨p4, p5, p6, p7⟩ := HPC.out w2 HP2.out; clear hrow hb2 p4 p7))
  clear p5 p6
  have PC := Lib.hid (fun W (hW : Below g w2 W) => (HPC.out W (HP2.out.below (Nat.lt_trans (Nat.lt_trans (Nat.lt_succ_self _) (Nat.lt_succ_self _)) HGB.out) hW)).2.1)
  refine wp_region_held_drew (S := fun W => Below g w2 W) (by kernel_rfl) ((Below.refl _ _).drew) (fun hHeld => ?_)
  obtain ⟨X, hX⟩ : ∃ X, w2.drew = X := ⟨_, rfl⟩
  have HOX : Hid (Own8 X Y.heap.size (.slice (some ⟨g, 0, none⟩) len c1) xs) := Lib.hid (hX ▸ HO2.out)
  have HAX : Hid (Blk X 25 (w.heap.size + 1 + 1) (adL a)) := Lib.hid (hX ▸ HA2.out)
  have HNX : Hid (Row8 X w1.heap.size (be2 m)) := Lib.hid (hX ▸ HN2.out)
  have HGX : Hid (g < X.heap.size) := Lib.hid (hX ▸ HGL2.out)
  rw [hX] at hHeld ⊢
  clear hX
  refine tk 0 49 (.slice (some ⟨g, 0, none⟩) len c1) rfl hHeld ?_
  simp only [Act.put, sA, sZ, sS]
  refine tk 1 50 (.pointer (some ⟨w.heap.size, 5, none⟩)) rfl hHeld ?_
  simp only [Act.put, sA, sZ, sS]
  refine tkY 2 51 (.int .i64 (hd : Int)) rfl (Or.inl ⟨by rfl, fun W hW => by have hc := PC.out W hW; go_simp⟩) hHeld ?_
  simp only [Act.put, sA, sZ, sS]
  refine tk 3 52 (.slice (some ⟨g, 0, none⟩) len c1) rfl hHeld ?_
  simp only [Act.put, sA, sZ, sS]
  refine tk 4 53 (.pointer (some ⟨w.heap.size, 5, none⟩)) rfl hHeld ?_
  simp only [Act.put, sA, sZ, sS]
  refine tkY 5 54 (.int .i64 (hd : Int)) rfl (Or.inl ⟨by rfl, fun W hW => by have hc := PC.out W hW; go_simp⟩) hHeld ?_
  simp only [Act.put, sA, sZ, sS]
  refine tk 7 56 (.slice (some ⟨g, ad, none⟩) 4 (c1 - ad)) rfl hHeld ?_
  simp only [Act.put, sA, sZ, sS]
  refine tk 8 57 (.slice (some ⟨w.heap.size + 1 + 1, 1, none⟩) 4 16) rfl hHeld ?_
  simp only [Act.put, sA, sZ, sS]
  refine wpAnyH_ready (rs := [6]) (by kernel_rfl) (by simp) (AllReadyH.cons (o := ⟨some 55, _, _, _, _, _⟩) rfl (fun K hK => ?_) AllReadyH.nil)
  go_simp
  refine (nnum_any (xs := xs) NH1.out NH2.out (HOX.out.rdN HXL.out).2.2).mono ?_
  rintro e w3 ⟨rfl, n3, hw3⟩
  rw [HWH.out]
  have HO3 : Hid (Own8 w3 Y.heap.size (.slice (some ⟨g, 0, none⟩) len c1) xs) := Lib.hid (hw3 ▸ HOX.out)
  have HA3 : Hid (Blk w3 25 (w.heap.size + 1 + 1) (adL a)) := Lib.hid (hw3 ▸ HAX.out)
  have HN3 : Hid (Row8 w3 w1.heap.size (be2 m)) := Lib.hid (hw3 ▸ HNX.out)
  have HG3 : Hid (g < w3.heap.size) := Lib.hid (hw3 ▸ HGX.out)
  have HH3 : Hid (Below g w2 w3) := Lib.hid (hw3 ▸ below_drewN hHeld n3)
  clear hw3
  refine hK.out _ _ (HH3.out) (fun hHeld => ?_)
  clear hK K 
  refine wpAnyH_ready (rs := [9]) (by kernel_rfl) (by simp) (AllReadyH.cons (o := ⟨some 58, _, _, _, _, _⟩) rfl (fun K hK => ?_) AllReadyH.nil)
  go_simp
  refine (HCH.out wh hwh w3 _ _ _ _ (HOL.out ▸ HPART.out w3 _ g c1 HLC.out xs HXL.out HO3.out ad 4 NA.out (by decide)) (HNEW.out w3 HA3.out)).mono ?_
  rintro e w4 ⟨rfl, rfl⟩
  refine hK.out _ _ (hHeld) (fun hHeld => ?_)
  clear hK K 
  refine wpAnyH_ready (rs := [10]) (by kernel_rfl) (by simp) (AllReadyH.cons (o := ⟨some 59, _, _, _, _, _⟩) rfl (fun K hK => ?_) AllReadyH.nil)
  go_simp
  refine (nlay_any (changedOf wh olds news) (Nat.lt_succ_of_le HLH.out) HO3.out HXL.out hd NH1.out NH2.out).mono ?_
  rintro e w5 ⟨rfl, ho5, hg5⟩
  rw [← HHE.out] at ho5
  have HO5 := Lib.hid ho5
  have HN5 := Lib.hid (HN3.out.stay hg5 HNG.out)
  have HH5 := Lib.hid (gb_to_below hg5 (Nat.le_refl g) (Nat.le_of_lt HG3.out))
  have HG5 := Lib.hid (Nat.lt_of_lt_of_le HG3.out hg5.size)
  clear ho5 hg5
  refine hK.out _ _ (hHeld.trans HH5.out) (fun hHeld => ?_)
  clear hK K 
  refine wpAnyH_done (by kernel_rfl) ?_ _
  have HP5 := Lib.hid (HP2.out.below (Nat.lt_trans (Nat.lt_trans (Nat.lt_succ_self _) (Nat.lt_succ_self _)) HGB.out) hHeld)
  have HA5 := Lib.hid (HA2.out.below HGB.out hHeld)
  have HB5 := Lib.hid (HB2.out.trans (hHeld.mono (Nat.le_trans HWB.out HYG.out)))
  obtain ⟨p4, p5, p6, p7⟩ := HPC.out w5 HP5.out
  clear p4 p5 p7 hHeld
  go_wp2_with fail
  refine (nnum_any (xs := ys) NM1.out NM2.out (HO5.out.rdN HYL.out).2.2).mono ?_
  rintro e w6 ⟨rfl, n6, hw6⟩
  rw [HY3.out]
  have HO6 : Hid (Own8 w6 Y.heap.size (.slice (some ⟨g, 0, none⟩) len c1) ys) := Lib.hid (hw6 ▸ HO5.out)
  have HA6 : Hid (Blk w6 25 (w.heap.size + 1 + 1) (adL a)) := Lib.hid (hw6 ▸ HA5.out)
  have HP6 : Hid (Blk w6 57 w.heap.size (plcL x0 x1 x2 x3 4 (hd : Int) (ck : Int) u)) := Lib.hid (hw6 ▸ HP5.out)
  have HN6 : Hid (Row8 w6 w1.heap.size (be2 m)) := Lib.hid (hw6 ▸ HN5.out)
  have HG6 : Hid (g < w6.heap.size) := Lib.hid (hw6 ▸ HG5.out)
  have HB6 : Hid (Below w.heap.size w w6) := Lib.hid (hw6 ▸ below_drewN HB5.out n6)
  clear hw6 p6
  obtain ⟨p4, p5, p6, p7⟩ := HPC.out w6 HP6.out
  clear p4 p5
  by_cases hid : u = true ∧ wc = 0
  · obtain ⟨rfl, rfl⟩ := hid
    have HL6 := HYL
    have hEQ : setL (setL ys ad news) pt (be2 m) = rewL (⟨ad, pt, hd, ck, true⟩ : Pl) xs news m := by rw [HR1.out, HIDL.out ⟨rfl, rfl⟩]
    have HEQ := Lib.hid hEQ
    clear hEQ hwc
    have b1 : (((0 : Nat) : Int) != 0) = false := rfl
    go_wp2_with (first
      | ((with_reducible show wpList _ _ _ (⟨some 91, _, _, _, _, _⟩ :: _) _ _); refine wpList_copyO (o := ⟨some 91, _, _, _, _, _⟩) rfl (.tmp 89) (.tmp 90) rfl g ad 4 _ _ (some ⟨w.heap.size + 1 + 1, 1, none⟩) (by rfl) (by rfl) HO6.out HL6.out (HNEW.out _ HA6.out) NA.out (by decide) ?_; intro w9 ho9 hg9; have HO9 := Lib.hid ho9; have HN9 := Lib.hid (HN6.out.stay hg9 HNG.out); have HB9 := Lib.hid (HB6.out.trans (gb_to_below hg9 (Nat.le_trans HWB.out HYG.out) HB6.out.size)); clear ho9 hg9)
      | ((with_reducible show wpList _ _ _ (⟨some 94, _, _, _, _, _⟩ :: _) _ _); refine wpList_copyO (o := ⟨some 94, _, _, _, _, _⟩) rfl (.tmp 92) (.tmp 93) rfl g pt 2 _ _ (some ⟨w1.heap.size, 0, none⟩) (by rfl) (by rfl) HO9.out (by rw [setL_len]; exact HL6.out) (HN9.out.rd HN9.out.lt) NP.out (by decide) ?_; intro w10 ho10 hg10; have HO10 := Lib.hid ho10; have HB10 := Lib.hid (HB9.out.trans (gb_to_below hg10 (Nat.le_trans HWB.out HYG.out) HB9.out.size)); clear ho10 hg10))
    go_ret
    exact ⟨.slice (some ⟨g, 0, none⟩) len c1, rfl, by rw [← HEQ.out]; exact HO10.out.base_le HWB.out, HB10.out⟩
  · have HNE := Lib.hid (HNID.out hid)
    have hnz : u = false ∨ wc ≠ 0 := by
      cases u
      · exact .inl rfl
      · exact .inr (fun e => hid ⟨rfl, e⟩)
    have CH1 := Lib.hid (HCH.out wc hwc w6 (some ⟨g, ad, none⟩) (some ⟨w.heap.size + 1 + 1, 1, none⟩) (c1 - ad) 16 (HY1.out ▸ HPART.out w6 _ g c1 HLC.out ys HYL.out HO6.out ad 4 NA.out (by decide)) (HNEW.out w6 HA6.out))
    have CH2 := Lib.hid (HCP.out (changedOf wc olds news) (Nat.lt_succ_of_le HLE.out) w6 (some ⟨g, pt, none⟩) (some ⟨w1.heap.size, 0, none⟩) (c1 - pt) 2 (HY2.out ▸ HPART.out w6 _ g c1 HLC.out ys HYL.out HO6.out pt 2 NP.out (by decide)) (HN6.out.rd HN6.out.lt))
    obtain ⟨s1, hs1⟩ : ∃ s, changedOf wc olds news = s := ⟨_, rfl⟩
    rw [hs1] at CH1 CH2 HLE2 HNE
    obtain ⟨s2, hs2⟩ : ∃ s, changedOf s1 oldp (be2 m) = s := ⟨_, rfl⟩
    rw [hs2] at CH2 HLE2 HNE
    clear hs1 hs2 hid
    have key : ∀ S : Nat, numS u s2 = S → S ≤ 65535 ∧ setL (setL (setL ys ck (be2 S)) ad news) pt (be2 m) = rewL (⟨ad, pt, hd, ck, u⟩ : Pl) xs news m := fun S hS => by
      refine ⟨by rw [← hS]; exact numS_le HLE2.out, ?_⟩
      rw [HR1.out, HNE.out, hS]
    have KEY := Lib.hid key
    clear key
    by_cases hz : wc = 0
    · obtain rfl : u = false := by
        rcases hnz with h | h
        · exact h
        · exact absurd hz h
      subst hz
      have b1 : (((0 : Nat) : Int) != 0) = false := rfl
      clear hnz hwc
      go_wp2_with fail
      refine CH1.out.mono ?_
      rintro e w7 ⟨rfl, rfl⟩
      go_wp2_with fail
      refine CH2.out.mono ?_
      rintro e w7 ⟨rfl, rfl⟩
      obtain ⟨k1, k2⟩ := KEY.out s2 rfl
      have HEQ := Lib.hid k2
      clear k2 b1
      go_wp2_with fail
      refine (nlay_any s2 (Nat.lt_succ_of_le k1) HO6.out HYL.out ck NM1.out NM2.out).mono ?_
      rintro e w8 ⟨rfl, ho8, hg8⟩
      have HO8 := Lib.hid ho8
      have HN8 := Lib.hid (HN6.out.stay hg8 HNG.out)
      have HA8 : Hid (Blk w8 25 (w.heap.size + 1 + 1) (adL a)) := Lib.hid (HA6.out.below HGB.out (gb_to_below hg8 (Nat.le_refl g) (Nat.le_of_lt HG6.out)))
      have HB8 := Lib.hid (HB6.out.trans (gb_to_below hg8 (Nat.le_trans HWB.out HYG.out) HB6.out.size))
      have HL8 := Lib.hid (show (setL ys ck (be2 s2)).length = len by rw [setL_len]; exact HYL.out)
      clear ho8 hg8 p6 p7
      go_wp2_with (first
        | ((with_reducible show wpList _ _ _ (⟨some 91, _, _, _, _, _⟩ :: _) _ _); refine wpList_copyO (o := ⟨some 91, _, _, _, _, _⟩) rfl (.tmp 89) (.tmp 90) rfl g ad 4 _ _ (some ⟨w.heap.size + 1 + 1, 1, none⟩) (by rfl) (by rfl) HO8.out HL8.out (HNEW.out _ HA8.out) NA.out (by decide) ?_; intro w9 ho9 hg9; have HO9 := Lib.hid ho9; have HN9 := Lib.hid (HN8.out.stay hg9 HNG.out); have HB9 := Lib.hid (HB8.out.trans (gb_to_below hg9 (Nat.le_trans HWB.out HYG.out) HB8.out.size)); clear ho9 hg9)
        | ((with_reducible show wpList _ _ _ (⟨some 94, _, _, _, _, _⟩ :: _) _ _); refine wpList_copyO (o := ⟨some 94, _, _, _, _, _⟩) rfl (.tmp 92) (.tmp 93) rfl g pt 2 _ _ (some ⟨w1.heap.size, 0, none⟩) (by rfl) (by rfl) HO9.out (by rw [setL_len]; exact HL8.out) (HN9.out.rd HN9.out.lt) NP.out (by decide) ?_; intro w10 ho10 hg10; have HO10 := Lib.hid ho10; have HB10 := Lib.hid (HB9.out.trans (gb_to_below hg10 (Nat.le_trans HWB.out HYG.out) HB9.out.size)); clear ho10 hg10))
      go_ret
      exact ⟨.slice (some ⟨g, 0, none⟩) len c1, rfl, by rw [← HEQ.out]; exact HO10.out.base_le HWB.out, HB10.out⟩
    · have b1 : ((wc : Int) != 0) = true := by simp; omega
      have b2 : (wc != 0) = true := by simp [hz]
      clear hnz hz hwc
      go_wp2_with fail
      refine CH1.out.mono ?_
      rintro e w7 ⟨rfl, rfl⟩
      go_wp2_with fail
      refine CH2.out.mono ?_
      rintro e w7 ⟨rfl, rfl⟩
      by_cases hu : u = true ∧ s2 = 0
      · obtain ⟨rfl, rfl⟩ := hu
        obtain ⟨k1, k2⟩ := KEY.out 65535 rfl
        have HEQ := Lib.hid k2
        clear k1 k2 b1 b2
        go_wp2_with fail
        refine (nlay_any 65535 (by decide) HO6.out HYL.out ck NM1.out NM2.out).mono ?_
        rintro e w8 ⟨rfl, ho8, hg8⟩
        have HO8 := Lib.hid ho8
        have HN8 := Lib.hid (HN6.out.stay hg8 HNG.out)
        have HA8 : Hid (Blk w8 25 (w.heap.size + 1 + 1) (adL a)) := Lib.hid (HA6.out.below HGB.out (gb_to_below hg8 (Nat.le_refl g) (Nat.le_of_lt HG6.out)))
        have HB8 := Lib.hid (HB6.out.trans (gb_to_below hg8 (Nat.le_trans HWB.out HYG.out) HB6.out.size))
        have HL8 := Lib.hid (show (setL ys ck (be2 65535)).length = len by rw [setL_len]; exact HYL.out)
        clear ho8 hg8 p6 p7
        go_wp2_with (first
          | ((with_reducible show wpList _ _ _ (⟨some 91, _, _, _, _, _⟩ :: _) _ _); refine wpList_copyO (o := ⟨some 91, _, _, _, _, _⟩) rfl (.tmp 89) (.tmp 90) rfl g ad 4 _ _ (some ⟨w.heap.size + 1 + 1, 1, none⟩) (by rfl) (by rfl) HO8.out HL8.out (HNEW.out _ HA8.out) NA.out (by decide) ?_; intro w9 ho9 hg9; have HO9 := Lib.hid ho9; have HN9 := Lib.hid (HN8.out.stay hg9 HNG.out); have HB9 := Lib.hid (HB8.out.trans (gb_to_below hg9 (Nat.le_trans HWB.out HYG.out) HB8.out.size)); clear ho9 hg9)
          | ((with_reducible show wpList _ _ _ (⟨some 94, _, _, _, _, _⟩ :: _) _ _); refine wpList_copyO (o := ⟨some 94, _, _, _, _, _⟩) rfl (.tmp 92) (.tmp 93) rfl g pt 2 _ _ (some ⟨w1.heap.size, 0, none⟩) (by rfl) (by rfl) HO9.out (by rw [setL_len]; exact HL8.out) (HN9.out.rd HN9.out.lt) NP.out (by decide) ?_; intro w10 ho10 hg10; have HO10 := Lib.hid ho10; have HB10 := Lib.hid (HB9.out.trans (gb_to_below hg10 (Nat.le_trans HWB.out HYG.out) HB9.out.size)); clear ho10 hg10))
        go_ret
        exact ⟨.slice (some ⟨g, 0, none⟩) len c1, rfl, by rw [← HEQ.out]; exact HO10.out.base_le HWB.out, HB10.out⟩
      · have hS : numS u s2 = s2 := if_neg hu
        obtain ⟨k1, k2⟩ := KEY.out s2 hS
        have HEQ := Lib.hid k2
        clear k2 hS b1 b2
        cases u with
        | false =>
          clear hu
          go_wp2_with fail
          refine (nlay_any s2 (Nat.lt_succ_of_le k1) HO6.out HYL.out ck NM1.out NM2.out).mono ?_
          rintro e w8 ⟨rfl, ho8, hg8⟩
          have HO8 := Lib.hid ho8
          have HN8 := Lib.hid (HN6.out.stay hg8 HNG.out)
          have HA8 : Hid (Blk w8 25 (w.heap.size + 1 + 1) (adL a)) := Lib.hid (HA6.out.below HGB.out (gb_to_below hg8 (Nat.le_refl g) (Nat.le_of_lt HG6.out)))
          have HB8 := Lib.hid (HB6.out.trans (gb_to_below hg8 (Nat.le_trans HWB.out HYG.out) HB6.out.size))
          have HL8 := Lib.hid (show (setL ys ck (be2 s2)).length = len by rw [setL_len]; exact HYL.out)
          clear ho8 hg8 p6 p7
          go_wp2_with (first
            | ((with_reducible show wpList _ _ _ (⟨some 91, _, _, _, _, _⟩ :: _) _ _); refine wpList_copyO (o := ⟨some 91, _, _, _, _, _⟩) rfl (.tmp 89) (.tmp 90) rfl g ad 4 _ _ (some ⟨w.heap.size + 1 + 1, 1, none⟩) (by rfl) (by rfl) HO8.out HL8.out (HNEW.out _ HA8.out) NA.out (by decide) ?_; intro w9 ho9 hg9; have HO9 := Lib.hid ho9; have HN9 := Lib.hid (HN8.out.stay hg9 HNG.out); have HB9 := Lib.hid (HB8.out.trans (gb_to_below hg9 (Nat.le_trans HWB.out HYG.out) HB8.out.size)); clear ho9 hg9)
            | ((with_reducible show wpList _ _ _ (⟨some 94, _, _, _, _, _⟩ :: _) _ _); refine wpList_copyO (o := ⟨some 94, _, _, _, _, _⟩) rfl (.tmp 92) (.tmp 93) rfl g pt 2 _ _ (some ⟨w1.heap.size, 0, none⟩) (by rfl) (by rfl) HO9.out (by rw [setL_len]; exact HL8.out) (HN9.out.rd HN9.out.lt) NP.out (by decide) ?_; intro w10 ho10 hg10; have HO10 := Lib.hid ho10; have HB10 := Lib.hid (HB9.out.trans (gb_to_below hg10 (Nat.le_trans HWB.out HYG.out) HB9.out.size)); clear ho10 hg10))
          go_ret
          exact ⟨.slice (some ⟨g, 0, none⟩) len c1, rfl, by rw [← HEQ.out]; exact HO10.out.base_le HWB.out, HB10.out⟩
        | true =>
          have hs0 : s2 ≠ 0 := fun e => hu ⟨rfl, e⟩
          have c1' : ((s2 : Int) == 0) = false := by simp; omega
          have c2' : (s2 == 0) = false := by simp [hs0]
          clear hu hs0
          go_wp2_with fail
          refine (nlay_any s2 (Nat.lt_succ_of_le k1) HO6.out HYL.out ck NM1.out NM2.out).mono ?_
          rintro e w8 ⟨rfl, ho8, hg8⟩
          have HO8 := Lib.hid ho8
          have HN8 := Lib.hid (HN6.out.stay hg8 HNG.out)
          have HA8 : Hid (Blk w8 25 (w.heap.size + 1 + 1) (adL a)) := Lib.hid (HA6.out.below HGB.out (gb_to_below hg8 (Nat.le_refl g) (Nat.le_of_lt HG6.out)))
          have HB8 := Lib.hid (HB6.out.trans (gb_to_below hg8 (Nat.le_trans HWB.out HYG.out) HB6.out.size))
          have HL8 := Lib.hid (show (setL ys ck (be2 s2)).length = len by rw [setL_len]; exact HYL.out)
          clear ho8 hg8 p6 p7
          go_wp2_with (first
            | ((with_reducible show wpList _ _ _ (⟨some 91, _, _, _, _, _⟩ :: _) _ _); refine wpList_copyO (o := ⟨some 91, _, _, _, _, _⟩) rfl (.tmp 89) (.tmp 90) rfl g ad 4 _ _ (some ⟨w.heap.size + 1 + 1, 1, none⟩) (by rfl) (by rfl) HO8.out HL8.out (HNEW.out _ HA8.out) NA.out (by decide) ?_; intro w9 ho9 hg9; have HO9 := Lib.hid ho9; have HN9 := Lib.hid (HN8.out.stay hg9 HNG.out); have HB9 := Lib.hid (HB8.out.trans (gb_to_below hg9 (Nat.le_trans HWB.out HYG.out) HB8.out.size)); clear ho9 hg9)
            | ((with_reducible show wpList _ _ _ (⟨some 94, _, _, _, _, _⟩ :: _) _ _); refine wpList_copyO (o := ⟨some 94, _, _, _, _, _⟩) rfl (.tmp 92) (.tmp 93) rfl g pt 2 _ _ (some ⟨w1.heap.size, 0, none⟩) (by rfl) (by rfl) HO9.out (by rw [setL_len]; exact HL8.out) (HN9.out.rd HN9.out.lt) NP.out (by decide) ?_; intro w10 ho10 hg10; have HO10 := Lib.hid ho10; have HB10 := Lib.hid (HB9.out.trans (gb_to_below hg10 (Nat.le_trans HWB.out HYG.out) HB9.out.size)); clear ho10 hg10))
          go_ret
          exact ⟨.slice (some ⟨g, 0, none⟩) len c1, rfl, by rw [← HEQ.out]; exact HO10.out.base_le HWB.out, HB10.out⟩

set_option maxHeartbeats 16000000 in
theorem nrew_6 (x0 x1 x2 x3 : Int) {ad pt ck : Nat} (u : Bool) {a : Ad} (ha : a.b.length = 16) {m : Nat} (hm : m < 65536) {A : Option Addr} {len cap : Nat} {xs : List UInt8} (hq : Pl.Ok (⟨ad, pt, 0, ck, u⟩ : Pl) 16 len) (hlen : len ≤ 100000) (w : World) (hI : Rd w w.heap.size A len xs) :
    Calls Try.prog 24 #[plcC x0 x1 x2 x3 16 0 (ck : Int) u, .slice A len cap, endC (ad : Int) (pt : Int), adC a, .int .i64 (m : Int)] w fun e w' => ∃ v, e = .returned v ∧ Own8 w' w.heap.size v (rewL (⟨ad, pt, 0, ck, u⟩ : Pl) xs (a.b.take 16) m) ∧ Below w.heap.size w w' := by
  have q1 := hq.h
  have q2 : ad + 16 ≤ pt := hq.a
  have q3 : pt + 2 ≤ ck := hq.p
  have q4 : ck + 2 ≤ len := hq.k
  have hxl := hI.len
  obtain ⟨Y, hY, hp, he, haq, hbel⟩ := box3 w (plcL x0 x1 x2 x3 16 0 (ck : Int) u) [.int .i64 (ad : Int), .int .i64 (pt : Int)] (adL a) 57 55 25
  have hnl : (a.b.take 16).length = 16 := by rw [List.length_take, ha]; rfl
  have HC := Lib.hid (clone_any A len cap xs (by omega) Y (hI.below hbel) hbel.size)
  have HCUT := Lib.hid (fun (g c1 : Nat) (h : len ≤ c1) W => show (Instr.slice 22 (.slice (some ⟨g, 0, none⟩) len c1) (some (.int .i64 (ad : Int))) (some (.int .i64 ((ad : Int) + 16))) none).run Try.prog W = .ok (.slice (some ⟨g, ad, none⟩) 16 (c1 - ad)) W by
    rw [run_cut8 _ len c1 ad 16 (ad : Int) ((ad : Int) + 16) rfl (by omega) (by omega)]
    unfold cutA
    rw [if_neg (by omega)]
    simp [add_plain])
  have HCUP := Lib.hid (fun (g c1 : Nat) (h : len ≤ c1) W => show (Instr.slice 22 (.slice (some ⟨g, 0, none⟩) len c1) (some (.int .i64 (pt : Int))) (some (.int .i64 ((pt : Int) + 2))) none).run Try.prog W = .ok (.slice (some ⟨g, pt, none⟩) 2 (c1 - pt)) W by
    rw [run_cut8 _ len c1 pt 2 (pt : Int) ((pt : Int) + 2) rfl (by omega) (by omega)]
    unfold cutA
    rw [if_neg (by omega)]
    simp [add_plain])
  -- a part of what the call owns, read
  have HPART := Lib.hid (fun (W : World) (b0 g c1 : Nat) (h : len ≤ c1) (zs : List UInt8) (hz : zs.length = len) (ho : Own8 W b0 (.slice (some ⟨g, 0, none⟩) len c1) zs) (l k : Nat) (hk : l + k ≤ len) (hk0 : 0 < k) => show Rd W W.heap.size (some ⟨g, l, none⟩) k ((zs.drop l).take k) by
    obtain ⟨_, _, hr⟩ := ho.rdN hz
    have := hr.cut (l := l) (n := k) hk c1 h
    unfold cutA at this
    rw [if_neg (by omega)] at this
    simpa [add_plain] using this)
  have HNEW := Lib.hid (fun W (h : Blk W 25 (w.heap.size + 1 + 1) (adL a)) => show Rd W W.heap.size (some ⟨w.heap.size + 1 + 1, 1, none⟩) 16 (a.b.take 16) from (range_rd (Blk_8.adB h) ha (Blk_10.lt h)).take (k := 16) (by decide))
  have w1 : IntKind.i64.wrap ((ad : Int) + 16) = (ad : Int) + 16 := by rw [IntKind.wrap_i64]; omega
  have w2 : IntKind.i64.wrap ((pt : Int) + 2) = (pt : Int) + 2 := by rw [IntKind.wrap_i64]; omega
  have w3 : IntKind.i64.wrap ((m : Int) / 256) = (m : Int) / 256 := by rw [IntKind.wrap_i64]; omega
  have w4 : IntKind.u8.wrap ((m : Int) / 256) = (m : Int) / 256 := by rw [IntKind.wrap_u8]; omega
  have w5 : IntKind.u8.wrap (m : Int) = (m : Int) % 256 := by rw [IntKind.wrap_u8]
  have HXL := Lib.hid hxl
  have HNL := Lib.hid hnl
  have HN2 := Lib.hid (fun W => new_two W m hm)
  unfold plcC endC
  have E2 := Lib.hid (show adC a = .agg (adL a).toArray from rfl)
  rw [E2.out]
  obtain ⟨C0, hC0⟩ : ∃ C, (plcL x0 x1 x2 x3 16 0 (ck : Int) u).toArray = C := ⟨_, rfl⟩
  obtain ⟨C2, hC2⟩ : ∃ C, (adL a).toArray = C := ⟨_, rfl⟩
  rw [hC0, hC2] at hY
  rw [hC0, hC2]
  obtain ⟨olds, hol⟩ : ∃ z, (xs.drop ad).take 16 = z := ⟨_, rfl⟩
  obtain ⟨oldp, hop⟩ : ∃ z, (xs.drop pt).take 2 = z := ⟨_, rfl⟩
  obtain ⟨news, hnw⟩ : ∃ z, a.b.take 16 = z := ⟨_, rfl⟩
  obtain ⟨ys, hys⟩ : ∃ z, headL (⟨ad, pt, 0, ck, u⟩ : Pl) xs olds news = z := ⟨_, rfl⟩
  rw [hnw] at hnl HNL HNEW ⊢
  have hll : olds.length = 16 := by rw [← hol]; exact part_len (by omega)
  have hlp : oldp.length = 2 := by rw [← hop]; exact part_len (by omega)
  have HYL := Lib.hid (show ys.length = len by rw [← hys, headL_len]; exact hxl)
  have HY1 := Lib.hid (show (ys.drop ad).take 16 = olds by
    rw [← hys, ← hol]
    exact headL_part (Or.inl rfl))
  have HY2 := Lib.hid (show (ys.drop pt).take 2 = oldp by
    rw [← hys, ← hop]
    exact headL_part (Or.inl rfl))
  have HY3 := Lib.hid (show wat ys ck = wat xs ck by
    rw [← hys]
    exact headL_wne (Or.inl rfl))
  have hwc := wat_lt xs ck
  obtain ⟨wc, hwce⟩ : ∃ z, wat xs ck = z := ⟨_, rfl⟩
  have HR1 := Lib.hid (show rewL (⟨ad, pt, 0, ck, u⟩ : Pl) xs news m = setL (setL (setL ys ck (be2 (numW u wc olds news oldp (be2 m)))) ad news) pt (be2 m) by
    unfold rewL
    rw [hnl, hol, hop, hwce, hys])
  have HIDL := Lib.hid (fun (h : u = true ∧ wc = 0) => show setL ys ck (be2 (numW u wc olds news oldp (be2 m))) = ys by
    rw [numW_idle h, ← h.2, ← hwce, ← HY3.out]
    exact setL_two ys ck (by rw [HYL.out]; omega))
  have HNID := Lib.hid (fun (h : ¬ (u = true ∧ wc = 0)) => show numW u wc olds news oldp (be2 m) = numS u (changedOf (changedOf wc olds news) oldp (be2 m)) from if_neg h)
  have HCH := Lib.hid (fun (c : Nat) (hc : c < 65536) (W : World) (A1 A2 : Option Addr) (c1 c2 : Nat) (h1 : Rd W W.heap.size A1 16 olds) (h2 : Rd W W.heap.size A2 16 news) => changed_any c hc A1 16 c1 olds (by decide) A2 16 c2 news (by decide) W h1 h2)
  have HCP := Lib.hid (fun (c : Nat) (hc : c < 65536) (W : World) (A1 A2 : Option Addr) (c1 c2 : Nat) (h1 : Rd W W.heap.size A1 2 oldp) (h2 : Rd W W.heap.size A2 2 (be2 m)) => changed_any c hc A1 2 c1 oldp (by decide) A2 2 c2 (be2 m) (by decide) W h1 h2)
  have HLE := Lib.hid (show changedOf wc olds news ≤ 65535 from ch_le (by omega) (by rw [hnl, hll]))
  have HLE2 := Lib.hid (show changedOf (changedOf wc olds news) oldp (be2 m) ≤ 65535 from ch_le HLE.out (by rw [be2_len, hlp]))
  have HYX := Lib.hid (show ys = xs from hys.symm.trans (if_neg (Nat.lt_irrefl 0)))
  rw [hwce] at HY3 hwc
  have HOL := Lib.hid hol
  have HOP := Lib.hid hop
  have HY := Lib.hid hY
  have HP := Lib.hid hp
  have HE := Lib.hid he
  have HA := Lib.hid haq
  have HB := Lib.hid hbel
  have HPC := Lib.hid (fun W (h : Blk W 57 w.heap.size (plcL x0 x1 x2 x3 16 0 (ck : Int) u)) => show W.cell? ⟨w.heap.size, 4, none⟩ = some (.int .i64 16) ∧ W.cell? ⟨w.heap.size, 5, none⟩ = some (.int .i64 0) ∧ W.cell? ⟨w.heap.size, 6, none⟩ = some (.int .i64 (ck : Int)) ∧ W.cell? ⟨w.heap.size, 7, none⟩ = some (.bool u) from ⟨Blk_10.cell h rfl, Blk_10.cell h rfl, Blk_10.cell h rfl, Blk_10.cell h rfl⟩)
  have hYs : w.heap.size + 1 + 1 < Y.heap.size := Blk_10.lt haq
  have NM1 := Lib.hid (show ck ≤ 1000000 by omega)
  have NM2 := Lib.hid (show ck + 2 ≤ len by omega)
  have NA := Lib.hid (show ad + 16 ≤ len by omega)
  have NP := Lib.hid (show pt + 2 ≤ len by omega)
  clear hq q1 q2 q3 q4 hxl hnl hY hp he haq hbel hI hC0 hC2 hol hop hnw hys hll hlp hwce ha hm
  go_enter Try.func24, Try.ntmps24
  go_wp2_with fail
  rw [HY.out]
  refine HC.out.mono ?_
  rintro e w1 ⟨v1, rfl, ho1, hb1⟩
  obtain ⟨g, c1, rfl, hlc, hcm, hgb, hgl, _⟩ := ho1.formG HXL.out (Nat.lt_of_lt_of_le (by decide) (Nat.le_trans (Nat.le_add_left 2 ck) NM2.out))
  have HP1 := Lib.hid (HP.out.below HP.out.lt hb1)
  have HE1 := Lib.hid (HE.out.below HE.out.lt hb1)
  have HA1 := Lib.hid (HA.out.below HA.out.lt hb1)
  have HB1 := Lib.hid (HB.out.trans (hb1.mono HB.out.size))
  have HO1 := Lib.hid ho1
  have HLC := Lib.hid hlc
  have HGB := Lib.hid (show w.heap.size + 1 + 1 < g from Nat.lt_of_lt_of_le hYs hgb)
  have HGL := Lib.hid hgl
  obtain ⟨p4, p5, p6, p7⟩ := HPC.out w1 HP1.out
  have e0 : w1.cell? ⟨w.heap.size + 1, 0, none⟩ = some (.int .i64 (ad : Int)) := Blk_10.cell HE1.out rfl
  have e1 : w1.cell? ⟨w.heap.size + 1, 1, none⟩ = some (.int .i64 (pt : Int)) := Blk_10.cell HE1.out rfl
  have hcu := HCUT.out g c1 hlc
  have hcp := HCUP.out g c1 hlc
  have hwb : w.heap.size ≤ Y.heap.size := HB.out.size
  have HWB := Lib.hid hwb
  have HYG := Lib.hid hgb
  clear ho1 hb1 hlc hcm hgb hgl hYs hwb
  go_wp2_with fail
  go_quiet (fail)
  go_wp2_with (((with_reducible show wpList _ _ _ (⟨some 47, _, _, _, _, _⟩ :: _) _ _); refine at_world (fun W => Row8 W w1.heap.size (be2 m) ∧ Below w1.heap.size w1 W) ⟨HN2.out _, (below_drewN (Below.refl _ w1) _).alloc (Nat.le_refl _) _⟩ ?_; rintro w2 ⟨hrow, hb2⟩; clear p4 p5 p6 p7 e0 e1 hcu hcp; have HP2 := Lib.hid (HP1.out.below HP1.out.lt hb2); have HA2 := Lib.hid (HA1.out.below HA1.out.lt hb2); have HO2 := Lib.hid (HO1.out.below hb2); have HB2 := Lib.hid (HB1.out.trans (hb2.mono HB1.out.size)); have HN2 := Lib.hid hrow; have HGL2 := Lib.hid (Nat.lt_of_lt_of_le HGL.out hb2.size); have HNG : Hid (w1.heap.size ≠ g) := Lib.hid (fun e => Nat.lt_irrefl _ (e ▸ HGL.out)); obtain ⟨p4, p5, p6, p7⟩ := HPC.out w2 HP2.out; clear hrow hb2 p4 p7))
  have HO5 : Hid (Own8 w2 Y.heap.size (.slice (some ⟨g, 0, none⟩) len c1) ys) := Lib.hid (HYX.out.symm ▸ HO2.out)
  have HN5 := HN2
  have HP5 := HP2
  have HA5 := HA2
  have HB5 := HB2
  have HG5 := HGL2
  clear p5
  refine (nnum_any (xs := ys) NM1.out NM2.out (HO5.out.rdN HYL.out).2.2).mono ?_
  rintro e w6 ⟨rfl, n6, hw6⟩
  rw [HY3.out]
  have HO6 : Hid (Own8 w6 Y.heap.size (.slice (some ⟨g, 0, none⟩) len c1) ys) := Lib.hid (hw6 ▸ HO5.out)
  have HA6 : Hid (Blk w6 25 (w.heap.size + 1 + 1) (adL a)) := Lib.hid (hw6 ▸ HA5.out)
  have HP6 : Hid (Blk w6 57 w.heap.size (plcL x0 x1 x2 x3 16 0 (ck : Int) u)) := Lib.hid (hw6 ▸ HP5.out)
  have HN6 : Hid (Row8 w6 w1.heap.size (be2 m)) := Lib.hid (hw6 ▸ HN5.out)
  have HG6 : Hid (g < w6.heap.size) := Lib.hid (hw6 ▸ HG5.out)
  have HB6 : Hid (Below w.heap.size w w6) := Lib.hid (hw6 ▸ below_drewN HB5.out n6)
  clear hw6 p6
  obtain ⟨p4, p5, p6, p7⟩ := HPC.out w6 HP6.out
  clear p4 p5
  by_cases hid : u = true ∧ wc = 0
  · obtain ⟨rfl, rfl⟩ := hid
    have HL6 := HYL
    have hEQ : setL (setL ys ad news) pt (be2 m) = rewL (⟨ad, pt, 0, ck, true⟩ : Pl) xs news m := by rw [HR1.out, HIDL.out ⟨rfl, rfl⟩]
    have HEQ := Lib.hid hEQ
    clear hEQ hwc
    have b1 : (((0 : Nat) : Int) != 0) = false := rfl
    go_wp2_with (first
      | ((with_reducible show wpList _ _ _ (⟨some 91, _, _, _, _, _⟩ :: _) _ _); refine wpList_copyO (o := ⟨some 91, _, _, _, _, _⟩) rfl (.tmp 89) (.tmp 90) rfl g ad 16 _ _ (some ⟨w.heap.size + 1 + 1, 1, none⟩) (by rfl) (by rfl) HO6.out HL6.out (HNEW.out _ HA6.out) NA.out (by decide) ?_; intro w9 ho9 hg9; have HO9 := Lib.hid ho9; have HN9 := Lib.hid (HN6.out.stay hg9 HNG.out); have HB9 := Lib.hid (HB6.out.trans (gb_to_below hg9 (Nat.le_trans HWB.out HYG.out) HB6.out.size)); clear ho9 hg9)
      | ((with_reducible show wpList _ _ _ (⟨some 94, _, _, _, _, _⟩ :: _) _ _); refine wpList_copyO (o := ⟨some 94, _, _, _, _, _⟩) rfl (.tmp 92) (.tmp 93) rfl g pt 2 _ _ (some ⟨w1.heap.size, 0, none⟩) (by rfl) (by rfl) HO9.out (by rw [setL_len]; exact HL6.out) (HN9.out.rd HN9.out.lt) NP.out (by decide) ?_; intro w10 ho10 hg10; have HO10 := Lib.hid ho10; have HB10 := Lib.hid (HB9.out.trans (gb_to_below hg10 (Nat.le_trans HWB.out HYG.out) HB9.out.size)); clear ho10 hg10))
    go_ret
    exact ⟨.slice (some ⟨g, 0, none⟩) len c1, rfl, by rw [← HEQ.out]; exact HO10.out.base_le HWB.out, HB10.out⟩
  · have HNE := Lib.hid (HNID.out hid)
    have hnz : u = false ∨ wc ≠ 0 := by
      cases u
      · exact .inl rfl
      · exact .inr (fun e => hid ⟨rfl, e⟩)
    have CH1 := Lib.hid (HCH.out wc hwc w6 (some ⟨g, ad, none⟩) (some ⟨w.heap.size + 1 + 1, 1, none⟩) (c1 - ad) 16 (HY1.out ▸ HPART.out w6 _ g c1 HLC.out ys HYL.out HO6.out ad 16 NA.out (by decide)) (HNEW.out w6 HA6.out))
    have CH2 := Lib.hid (HCP.out (changedOf wc olds news) (Nat.lt_succ_of_le HLE.out) w6 (some ⟨g, pt, none⟩) (some ⟨w1.heap.size, 0, none⟩) (c1 - pt) 2 (HY2.out ▸ HPART.out w6 _ g c1 HLC.out ys HYL.out HO6.out pt 2 NP.out (by decide)) (HN6.out.rd HN6.out.lt))
    obtain ⟨s1, hs1⟩ : ∃ s, changedOf wc olds news = s := ⟨_, rfl⟩
    rw [hs1] at CH1 CH2 HLE2 HNE
    obtain ⟨s2, hs2⟩ : ∃ s, changedOf s1 oldp (be2 m) = s := ⟨_, rfl⟩
    rw [hs2] at CH2 HLE2 HNE
    clear hs1 hs2 hid
    have key : ∀ S : Nat, numS u s2 = S → S ≤ 65535 ∧ setL (setL (setL ys ck (be2 S)) ad news) pt (be2 m) = rewL (⟨ad, pt, 0, ck, u⟩ : Pl) xs news m := fun S hS => by
      refine ⟨by rw [← hS]; exact numS_le HLE2.out, ?_⟩
      rw [HR1.out, HNE.out, hS]
    have KEY := Lib.hid key
    clear key
    by_cases hz : wc = 0
    · obtain rfl : u = false := by
        rcases hnz with h | h
        · exact h
        · exact absurd hz h
      subst hz
      have b1 : (((0 : Nat) : Int) != 0) = false := rfl
      clear hnz hwc
      go_wp2_with fail
      refine CH1.out.mono ?_
      rintro e w7 ⟨rfl, rfl⟩
      go_wp2_with fail
      refine CH2.out.mono ?_
      rintro e w7 ⟨rfl, rfl⟩
      obtain ⟨k1, k2⟩ := KEY.out s2 rfl
      have HEQ := Lib.hid k2
      clear k2 b1
      go_wp2_with fail
      refine (nlay_any s2 (Nat.lt_succ_of_le k1) HO6.out HYL.out ck NM1.out NM2.out).mono ?_
      rintro e w8 ⟨rfl, ho8, hg8⟩
      have HO8 := Lib.hid ho8
      have HN8 := Lib.hid (HN6.out.stay hg8 HNG.out)
      have HA8 : Hid (Blk w8 25 (w.heap.size + 1 + 1) (adL a)) := Lib.hid (HA6.out.below HGB.out (gb_to_below hg8 (Nat.le_refl g) (Nat.le_of_lt HG6.out)))
      have HB8 := Lib.hid (HB6.out.trans (gb_to_below hg8 (Nat.le_trans HWB.out HYG.out) HB6.out.size))
      have HL8 := Lib.hid (show (setL ys ck (be2 s2)).length = len by rw [setL_len]; exact HYL.out)
      clear ho8 hg8 p6 p7
      go_wp2_with (first
        | ((with_reducible show wpList _ _ _ (⟨some 91, _, _, _, _, _⟩ :: _) _ _); refine wpList_copyO (o := ⟨some 91, _, _, _, _, _⟩) rfl (.tmp 89) (.tmp 90) rfl g ad 16 _ _ (some ⟨w.heap.size + 1 + 1, 1, none⟩) (by rfl) (by rfl) HO8.out HL8.out (HNEW.out _ HA8.out) NA.out (by decide) ?_; intro w9 ho9 hg9; have HO9 := Lib.hid ho9; have HN9 := Lib.hid (HN8.out.stay hg9 HNG.out); have HB9 := Lib.hid (HB8.out.trans (gb_to_below hg9 (Nat.le_trans HWB.out HYG.out) HB8.out.size)); clear ho9 hg9)
        | ((with_reducible show wpList _ _ _ (⟨some 94, _, _, _, _, _⟩ :: _) _ _); refine wpList_copyO (o := ⟨some 94, _, _, _, _, _⟩) rfl (.tmp 92) (.tmp 93) rfl g pt 2 _ _ (some ⟨w1.heap.size, 0, none⟩) (by rfl) (by rfl) HO9.out (by rw [setL_len]; exact HL8.out) (HN9.out.rd HN9.out.lt) NP.out (by decide) ?_; intro w10 ho10 hg10; have HO10 := Lib.hid ho10; have HB10 := Lib.hid (HB9.out.trans (gb_to_below hg10 (Nat.le_trans HWB.out HYG.out) HB9.out.size)); clear ho10 hg10))
      go_ret
      exact ⟨.slice (some ⟨g, 0, none⟩) len c1, rfl, by rw [← HEQ.out]; exact HO10.out.base_le HWB.out, HB10.out⟩
    · have b1 : ((wc : Int) != 0) = true := by simp; omega
      have b2 : (wc != 0) = true := by simp [hz]
      clear hnz hz hwc
      go_wp2_with fail
      refine CH1.out.mono ?_
      rintro e w7 ⟨rfl, rfl⟩
      go_wp2_with fail
      refine CH2.out.mono ?_
      rintro e w7 ⟨rfl, rfl⟩
      by_cases hu : u = true ∧ s2 = 0
      · obtain ⟨rfl, rfl⟩ := hu
        obtain ⟨k1, k2⟩ := KEY.out 65535 rfl
        have HEQ := Lib.hid k2
        clear k1 k2 b1 b2
        go_wp2_with fail
        refine (nlay_any 65535 (by decide) HO6.out HYL.out ck NM1.out NM2.out).mono ?_
        rintro e w8 ⟨rfl, ho8, hg8⟩
        have HO8 := Lib.hid ho8
        have HN8 := Lib.hid (HN6.out.stay hg8 HNG.out)
        have HA8 : Hid (Blk w8 25 (w.heap.size + 1 + 1) (adL a)) := Lib.hid (HA6.out.below HGB.out (gb_to_below hg8 (Nat.le_refl g) (Nat.le_of_lt HG6.out)))
        have HB8 := Lib.hid (HB6.out.trans (gb_to_below hg8 (Nat.le_trans HWB.out HYG.out) HB6.out.size))
        have HL8 := Lib.hid (show (setL ys ck (be2 65535)).length = len by rw [setL_len]; exact HYL.out)
        clear ho8 hg8 p6 p7
        go_wp2_with (first
          | ((with_reducible show wpList _ _ _ (⟨some 91, _, _, _, _, _⟩ :: _) _ _); refine wpList_copyO (o := ⟨some 91, _, _, _, _, _⟩) rfl (.tmp 89) (.tmp 90) rfl g ad 16 _ _ (some ⟨w.heap.size + 1 + 1, 1, none⟩) (by rfl) (by rfl) HO8.out HL8.out (HNEW.out _ HA8.out) NA.out (by decide) ?_; intro w9 ho9 hg9; have HO9 := Lib.hid ho9; have HN9 := Lib.hid (HN8.out.stay hg9 HNG.out); have HB9 := Lib.hid (HB8.out.trans (gb_to_below hg9 (Nat.le_trans HWB.out HYG.out) HB8.out.size)); clear ho9 hg9)
          | ((with_reducible show wpList _ _ _ (⟨some 94, _, _, _, _, _⟩ :: _) _ _); refine wpList_copyO (o := ⟨some 94, _, _, _, _, _⟩) rfl (.tmp 92) (.tmp 93) rfl g pt 2 _ _ (some ⟨w1.heap.size, 0, none⟩) (by rfl) (by rfl) HO9.out (by rw [setL_len]; exact HL8.out) (HN9.out.rd HN9.out.lt) NP.out (by decide) ?_; intro w10 ho10 hg10; have HO10 := Lib.hid ho10; have HB10 := Lib.hid (HB9.out.trans (gb_to_below hg10 (Nat.le_trans HWB.out HYG.out) HB9.out.size)); clear ho10 hg10))
        go_ret
        exact ⟨.slice (some ⟨g, 0, none⟩) len c1, rfl, by rw [← HEQ.out]; exact HO10.out.base_le HWB.out, HB10.out⟩
      · have hS : numS u s2 = s2 := if_neg hu
        obtain ⟨k1, k2⟩ := KEY.out s2 hS
        have HEQ := Lib.hid k2
        clear k2 hS b1 b2
        cases u with
        | false =>
          clear hu
          go_wp2_with fail
          refine (nlay_any s2 (Nat.lt_succ_of_le k1) HO6.out HYL.out ck NM1.out NM2.out).mono ?_
          rintro e w8 ⟨rfl, ho8, hg8⟩
          have HO8 := Lib.hid ho8
          have HN8 := Lib.hid (HN6.out.stay hg8 HNG.out)
          have HA8 : Hid (Blk w8 25 (w.heap.size + 1 + 1) (adL a)) := Lib.hid (HA6.out.below HGB.out (gb_to_below hg8 (Nat.le_refl g) (Nat.le_of_lt HG6.out)))
          have HB8 := Lib.hid (HB6.out.trans (gb_to_below hg8 (Nat.le_trans HWB.out HYG.out) HB6.out.size))
          have HL8 := Lib.hid (show (setL ys ck (be2 s2)).length = len by rw [setL_len]; exact HYL.out)
          clear ho8 hg8 p6 p7
          go_wp2_with (first
            | ((with_reducible show wpList _ _ _ (⟨some 91, _, _, _, _, _⟩ :: _) _ _); refine wpList_copyO (o := ⟨some 91, _, _, _, _, _⟩) rfl (.tmp 89) (.tmp 90) rfl g ad 16 _ _ (some ⟨w.heap.size + 1 + 1, 1, none⟩) (by rfl) (by rfl) HO8.out HL8.out (HNEW.out _ HA8.out) NA.out (by decide) ?_; intro w9 ho9 hg9; have HO9 := Lib.hid ho9; have HN9 := Lib.hid (HN8.out.stay hg9 HNG.out); have HB9 := Lib.hid (HB8.out.trans (gb_to_below hg9 (Nat.le_trans HWB.out HYG.out) HB8.out.size)); clear ho9 hg9)
            | ((with_reducible show wpList _ _ _ (⟨some 94, _, _, _, _, _⟩ :: _) _ _); refine wpList_copyO (o := ⟨some 94, _, _, _, _, _⟩) rfl (.tmp 92) (.tmp 93) rfl g pt 2 _ _ (some ⟨w1.heap.size, 0, none⟩) (by rfl) (by rfl) HO9.out (by rw [setL_len]; exact HL8.out) (HN9.out.rd HN9.out.lt) NP.out (by decide) ?_; intro w10 ho10 hg10; have HO10 := Lib.hid ho10; have HB10 := Lib.hid (HB9.out.trans (gb_to_below hg10 (Nat.le_trans HWB.out HYG.out) HB9.out.size)); clear ho10 hg10))
          go_ret
          exact ⟨.slice (some ⟨g, 0, none⟩) len c1, rfl, by rw [← HEQ.out]; exact HO10.out.base_le HWB.out, HB10.out⟩
        | true =>
          have hs0 : s2 ≠ 0 := fun e => hu ⟨rfl, e⟩
          have c1' : ((s2 : Int) == 0) = false := by simp; omega
          have c2' : (s2 == 0) = false := by simp [hs0]
          clear hu hs0
          go_wp2_with fail
          refine (nlay_any s2 (Nat.lt_succ_of_le k1) HO6.out HYL.out ck NM1.out NM2.out).mono ?_
          rintro e w8 ⟨rfl, ho8, hg8⟩
          have HO8 := Lib.hid ho8
          have HN8 := Lib.hid (HN6.out.stay hg8 HNG.out)
          have HA8 : Hid (Blk w8 25 (w.heap.size + 1 + 1) (adL a)) := Lib.hid (HA6.out.below HGB.out (gb_to_below hg8 (Nat.le_refl g) (Nat.le_of_lt HG6.out)))
          have HB8 := Lib.hid (HB6.out.trans (gb_to_below hg8 (Nat.le_trans HWB.out HYG.out) HB6.out.size))
          have HL8 := Lib.hid (show (setL ys ck (be2 s2)).length = len by rw [setL_len]; exact HYL.out)
          clear ho8 hg8 p6 p7
          go_wp2_with (first
            | ((with_reducible show wpList _ _ _ (⟨some 91, _, _, _, _, _⟩ :: _) _ _); refine wpList_copyO (o := ⟨some 91, _, _, _, _, _⟩) rfl (.tmp 89) (.tmp 90) rfl g ad 16 _ _ (some ⟨w.heap.size + 1 + 1, 1, none⟩) (by rfl) (by rfl) HO8.out HL8.out (HNEW.out _ HA8.out) NA.out (by decide) ?_; intro w9 ho9 hg9; have HO9 := Lib.hid ho9; have HN9 := Lib.hid (HN8.out.stay hg9 HNG.out); have HB9 := Lib.hid (HB8.out.trans (gb_to_below hg9 (Nat.le_trans HWB.out HYG.out) HB8.out.size)); clear ho9 hg9)
            | ((with_reducible show wpList _ _ _ (⟨some 94, _, _, _, _, _⟩ :: _) _ _); refine wpList_copyO (o := ⟨some 94, _, _, _, _, _⟩) rfl (.tmp 92) (.tmp 93) rfl g pt 2 _ _ (some ⟨w1.heap.size, 0, none⟩) (by rfl) (by rfl) HO9.out (by rw [setL_len]; exact HL8.out) (HN9.out.rd HN9.out.lt) NP.out (by decide) ?_; intro w10 ho10 hg10; have HO10 := Lib.hid ho10; have HB10 := Lib.hid (HB9.out.trans (gb_to_below hg10 (Nat.le_trans HWB.out HYG.out) HB9.out.size)); clear ho10 hg10))
          go_ret
          exact ⟨.slice (some ⟨g, 0, none⟩) len c1, rfl, by rw [← HEQ.out]; exact HO10.out.base_le HWB.out, HB10.out⟩
end Go.Proofs.Ytkmcopenflakkaa
