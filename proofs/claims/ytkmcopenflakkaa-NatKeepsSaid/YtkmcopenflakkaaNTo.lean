/-
  nat.To, nat.From.
-/
import Derived.Test.YtkmcopenflakkaaNRew
namespace Go.Proofs.Ytkmcopenflakkaa
set_option maxRecDepth 100000
open Go.RowKit Go.Lib

theorem may_eq (xs : List UInt8) (a : Ad) (m : Int) : mayP (readK xs) a m = mayN (readK xs) a m := by
  unfold mayP mayN
  have e : (decide (0 ≤ m) && decide (m ≤ 65535)) = decide (0 ≤ m ∧ m ≤ 65535) := (Bool.decide_and ..).symm
  rw [e]
  by_cases h : (readK xs).kind = 0
  · obtain ⟨z, six, n, p, u, hA⟩ := at_fine h
    obtain ⟨_, _, _, e4, e5, _⟩ := hA.en
    rw [e4, e5]
  · rw [decide_eq_false h]
    rfl
/-- What nat.To and nat.From answer. -/
def NatGave (w : World) (xs : List UInt8) (a : Ad) (m : Int) (dst : Bool) (e : Ending) (w' : World) : Prop :=
  (mayN (readK xs) a m = false → e = .returned (.tuple #[.slice none 0 0, .int .i64 1])) ∧
  (mayN (readK xs) a m = true → ∃ v, e = .returned (.tuple #[v, .int .i64 0]) ∧ Own8 w' w.heap.size v (natL xs a m dst)) ∧ Below w.heap.size w w'
theorem box_ad (w : World) (a : Ad) : ∃ Y : World, w.alloc (.cells (adL a).toArray 25) = Y ∧ Blk Y 25 w.heap.size (adL a) ∧ Below w.heap.size w Y :=
  ⟨_, rfl, Blk_10.new w _ _, (Below.refl w.heap.size w).alloc (Nat.le_refl _) _⟩
theorem size_end {x y : Int} : (Try.prog.info? 55).map (·.size) = some ([.int .i64 x, .int .i64 y] : List Value).length := by kernel_rfl
theorem end_mid0 {W : World} {g : Nat} {sa sp da dp sz hd ck : Int} {u : Bool} (h : Blk W 57 g (plcL sa sp da dp sz hd ck u)) : W.rangeAt g 0 [.int .i64 sa, .int .i64 sp] := Blk_10.mid h (pre := []) (post := [.int .i64 da, .int .i64 dp, .int .i64 sz, .int .i64 hd, .int .i64 ck, .bool u]) rfl rfl
theorem end_mid2 {W : World} {g : Nat} {sa sp da dp sz hd ck : Int} {u : Bool} (h : Blk W 57 g (plcL sa sp da dp sz hd ck u)) : W.rangeAt g 2 [.int .i64 da, .int .i64 dp] := Blk_10.mid h (pre := [.int .i64 sa, .int .i64 sp]) (post := [.int .i64 sz, .int .i64 hd, .int .i64 ck, .bool u]) rfl rfl

set_option maxHeartbeats 16000000 in
theorem nto_any {a : Ad} (ha : a.b.length = 16) {m : Int} {A : Option Addr} {len cap : Nat} {xs : List UInt8} (hlen : len ≤ 100000) (hcap : len ≤ cap) (hcm : cap ≤ maxLen) (w : World) (hI : Rd w w.heap.size A len xs) :
    Calls Try.prog 10 #[.slice A len cap, adC a, .int .i64 m] w (NatGave w xs a m true) := by
  obtain ⟨Y, hY, hq, hbel⟩ := box_ad w a
  have HXL := Lib.hid hI.len
  have HRF := Lib.hid (fun W (hB : Below w.heap.size w W) => (hI.below hB).more hB.size)
  have HRD := Lib.hid (pread_any A len cap xs hlen hcap hcm Y ((hI.below hbel).more hbel.size))
  have HOK := Lib.hid (readK_ok xs)
  have HMAY := Lib.hid (fun W => may_eq xs a m ▸ nmay_any HOK.out ha m W)
  obtain ⟨b, hb⟩ : ∃ b, mayN (readK xs) a m = b := ⟨_, rfl⟩
  have HM := Lib.hid hb
  rw [hb] at HMAY
  obtain ⟨k, hk⟩ : ∃ k, readK xs = k := ⟨_, rfl⟩
  have HK := Lib.hid hk
  rw [hk] at HRD HOK HMAY
  have HAL := Lib.hid ha
  have E1 := Lib.hid (show adC a = .agg (adL a).toArray from rfl)
  rw [E1.out]
  rw [E1.out] at HMAY
  obtain ⟨C1, hC1⟩ : ∃ C, (adL a).toArray = C := ⟨_, rfl⟩
  rw [hC1] at hY HMAY E1
  rw [hC1]
  have HC1 := Lib.hid hC1
  have HY := Lib.hid hY
  have HQ := Lib.hid hq
  have HB := Lib.hid hbel
  clear hY hq hbel hb hk ha hC1 hI
  go_enter Try.func10, Try.ntmps10
  go_wp2_with fail
  rw [HY.out]
  refine HRD.out.mono ?_
  rintro e w1 ⟨rfl, hb1⟩
  have HB1 := Lib.hid (HB.out.trans (hb1.mono HB.out.size))
  have HQ1 := Lib.hid (HQ.out.below HQ.out.lt hb1)
  clear hb1
  go_wp2_with (first
    | ((with_reducible show wpList _ _ _ (⟨none, .store 37 (.tmp 8) _, _, _, _, _⟩ :: _) _ _); refine wpList_storePk rfl (.tmp 8) _ rfl (by rfl) k HOK.out (by rfl) (by rfl) ?_; intro w2 hp2 hb2; have HP2 := Lib.hid hp2; have HB2 := Lib.hid (HB1.out.trans (hb2.mono HB1.out.size)); have HQ2 := Lib.hid (HQ1.out.below HQ1.out.lt hb2); clear hp2 hb2; generalize w1.heap.size = G at HP2 ⊢)
    | ((with_reducible show wpList _ _ _ (⟨some 12, _, _, _, _, _⟩ :: _) _ _); refine wpList_loadPk (op := ⟨some 12, _, _, _, _, _⟩) _ rfl (by rfl) G (by rfl) k HOK.out HP2.out ?_)
    | ((with_reducible show wpList _ _ _ (⟨some 13, _, _, _, _, _⟩ :: _) _ _); refine wpList_loadM (op := ⟨some 13, _, _, _, _, _⟩) 25 _ rfl (by rfl) w.heap.size 0 (by rfl) (adL a) (Blk_10.range HQ2.out) _ Try.underlying25 rfl (sizeAdL HAL.out) ?_; rw [HC1.out]))
  refine (HMAY.out _).mono ?_
  rintro e w3 ⟨rfl, hb3⟩
  have HB3 := Lib.hid (HB2.out.trans (hb3.mono HB2.out.size))
  have HQ3 := Lib.hid (HQ2.out.below HQ2.out.lt hb3)
  have HP3 := Lib.hid (HP2.out.below HP2.out.lt hb3)
  clear hb3
  cases b with
  | false =>
    go_wp2_with fail
    go_ret2
    exact ⟨fun _ => rfl, fun h => (by rw [HM.out] at h; cases h), HB3.out⟩
  | true =>
    obtain ⟨hk0, hof, m0, m1⟩ := mayN_yes HM.out
    obtain ⟨z, six, n, p, u, hA⟩ := at_fine hk0
    obtain ⟨k1, k2, k3, k4, k5, k6, k7, k8, k9, _⟩ := hA.en
    have hbd := hA.f.bnd
    have hbx := hA.x
    have h0' := hbd.h0
    have hok := hbd.ok true
    have hTL : p + n.total ≤ len := by rw [← HXL.out]; exact hbx
    have hh1 := hbd.h1
    have HNAT := Lib.hid (hA.nat a m true)
    rw [HK.out] at k1 k2 k3 k4 k5 k6 k9 hof
    rw [k4] at hof
    obtain ⟨mn, hmn⟩ : ∃ q : Nat, m = (q : Int) := ⟨m.toNat, by omega⟩
    have hmt : m.toNat = mn := by omega
    rw [hmt] at HNAT
    have hml : mn < 65536 := by omega
    have HUP := Lib.hid (fun W => run_upto8 A len cap (p + n.total) ((p + n.total : Nat) : Int) rfl (by omega) W)
    have HTK := Lib.hid (fun W (hB : Below w.heap.size w W) => show Rd W W.heap.size A (p + n.total) z from hA.zt ▸ (HRF.out W hB).take (k := p + n.total) hTL)
    have HKE := Lib.hid (fun W (h : Blk W 37 G (pkL k)) => show W.cell? ⟨G, 41, none⟩ = some (.int .i64 ((p + n.total : Nat) : Int)) from k1 ▸ (pk_cells h HOK.out).2.2.2.2)
    have hpl : p ≤ 1000000 ∧ p + n.head ≤ 1000000 := ⟨by omega, by omega⟩
    cases six with
    | false =>
      have HPLC := Lib.hid (fun W => nplaces_4 HOK.out hpl.1 hpl.2 u k3 k2 k9 k5 W)
      have HREW := Lib.hid (fun W (hB : Below w.heap.size w W) => show Calls Try.prog 24 #[plcC ((p : Int) + 12) ((p + n.head : Nat) : Int) ((p : Int) + 16) (((p + n.head : Nat) : Int) + 2) 4 ((p : Int) + 10) ((p + n.head + plc u : Nat) : Int) u, .slice A (p + n.total) cap, endC ((p : Int) + 16) (((p + n.head : Nat) : Int) + 2), adC a, .int .i64 m] W fun e w' => ∃ v, e = .returned v ∧ Own8 w' W.heap.size v (natL xs a m true) ∧ Below W.heap.size W w' by
        have := nrew_4 ((p : Int) + 12) ((p + n.head : Nat) : Int) ((p : Int) + 16) (((p + n.head : Nat) : Int) + 2) (ad := p + 16) (pt := p + n.head + 2) (hd := p + 10) (ck := p + n.head + plc u) u HAL.out hml (A := A) (len := p + n.total) (cap := cap) (xs := z) hok (by omega) (by omega) W (HTK.out W hB)
        rw [show ((p + 16 : Nat) : Int) = (p : Int) + 16 by omega, show ((p + 10 : Nat) : Int) = (p : Int) + 10 by omega, show ((p + n.head + 2 : Nat) : Int) = ((p + n.head : Nat) : Int) + 2 by omega] at this
        rw [HNAT.out, hmn]
        exact this)
      obtain ⟨e0, he0⟩ : ∃ e0, p + n.total = e0 := ⟨_, rfl⟩
      rw [he0] at HUP HKE HREW
      obtain ⟨s0, hs0⟩ : ∃ s0, p + n.head = s0 := ⟨_, rfl⟩
      rw [hs0] at HPLC HREW
      obtain ⟨ck, hck⟩ : ∃ c, s0 + plc u = c := ⟨_, rfl⟩
      rw [hck] at HPLC HREW
      rw [E1.out] at HREW
      have hel : e0 ≤ len := by omega
      clear hk0 hof m0 m1 hA k1 k2 k3 k4 k5 k6 k7 k8 k9 hbd hbx h0' hok hTL hh1 HNAT hmn hmt hml HTK hpl he0 hs0 hck
      go_wp2_with (((with_reducible show wpList _ _ _ (⟨some 17, _, _, _, _, _⟩ :: _) _ _); refine wpList_loadPk (op := ⟨some 17, _, _, _, _, _⟩) _ rfl (by rfl) G (by rfl) k HOK.out HP3.out ?_))
      refine (HPLC.out _).mono ?_
      rintro e w4 ⟨rfl, hb4⟩
      have HB4 := Lib.hid (HB3.out.trans (hb4.mono HB3.out.size))
      have HQ4 := Lib.hid (HQ3.out.below HQ3.out.lt hb4)
      have HP4 := Lib.hid (HP3.out.below HP3.out.lt hb4)
      clear hb4
      go_wp2_with (first
        | ((with_reducible show wpList _ _ _ (⟨none, .store 57 (.tmp 9) _, _, _, _, _⟩ :: _) _ _); refine wpList_storeNewG rfl 57 _ _ rfl (by rfl) (plcL ((p : Int) + 12) (s0 : Int) ((p : Int) + 16) ((s0 : Int) + 2) 4 ((p : Int) + 10) (ck : Int) u) (by rfl) rfl (sizePl _ _ _ _ _ _ _ _) (plcL_one _ _ _ _ _ _ _ _) ?_; intro w5 hl5 hb5 hz5; clear hz5; have HL5 := Lib.hid hl5; have HB5 := Lib.hid (HB4.out.trans (hb5.mono HB4.out.size)); have HQ5 := Lib.hid (HQ4.out.below HQ4.out.lt hb5); have HP5 := Lib.hid (HP4.out.below HP4.out.lt hb5); clear hl5 hb5; generalize w4.heap.size = H at HL5 ⊢))
      have HKE5 := Lib.hid (fun W (hW : Below w5.heap.size w5 W) => HKE.out W (HP5.out.below HP5.out.lt hW))
      have HL6 := Lib.hid (fun W (hW : Below w5.heap.size w5 W) => HL5.out.below HL5.out.lt hW)
      have HQ6 := Lib.hid (fun W (hW : Below w5.heap.size w5 W) => HQ5.out.below HQ5.out.lt hW)
      have hup := HUP.out
      refine wp_region_held_drew (S := fun W => Below w5.heap.size w5 W) (by kernel_rfl) ((Below.refl _ _).drew) (fun hHeld => ?_)
      obtain ⟨X, hX⟩ : ∃ X, w5.drew = X := ⟨_, rfl⟩
      rw [hX] at hHeld ⊢
      clear hX
      refine tkY 0 19 (.agg (plcL ((p : Int) + 12) (s0 : Int) ((p : Int) + 16) ((s0 : Int) + 2) 4 ((p : Int) + 10) (ck : Int) u).toArray) rfl (yieldsIf_load_mid (by rfl) 57 _ rfl H 0 rfl (plcL ((p : Int) + 12) (s0 : Int) ((p : Int) + 16) ((s0 : Int) + 2) 4 ((p : Int) + 10) (ck : Int) u) _ (fun W hW => Blk_10.range (HL6.out W hW)) Try.underlying57 rfl (sizePl _ _ _ _ _ _ _ _)) hHeld ?_
      simp only [Act.put, sA, sZ, sS]
      refine tk 1 20 (.slice A len cap) rfl hHeld ?_
      simp only [Act.put, sA, sZ, sS]
      refine tk 2 21 (.pointer (some ⟨G, 41, none⟩)) rfl hHeld ?_
      simp only [Act.put, sA, sZ, sS]
      refine tkY 3 22 (.int .i64 (e0 : Int)) rfl (Or.inl ⟨by rfl, fun W hW => by have hc := HKE5.out W hW; go_simp⟩) hHeld ?_
      simp only [Act.put, sA, sZ, sS]
      refine tkY 4 23 (.slice A e0 cap) rfl (Or.inl ⟨by rfl, fun W _ => by have hs := HUP.out W; go_simp⟩) hHeld ?_
      simp only [Act.put, sA, sZ, sS]
      refine tk 5 24 (.pointer (some ⟨H, 2, none⟩)) rfl hHeld ?_
      simp only [Act.put, sA, sZ, sS]
      refine tkY 6 25 (endC ((p : Int) + 16) ((s0 : Int) + 2)) rfl (yieldsIf_load_mid (by rfl) 55 _ rfl H 2 rfl [.int .i64 ((p : Int) + 16), .int .i64 ((s0 : Int) + 2)] _ (fun W hW => end_mid2 (HL6.out W hW)) Try.underlying55 rfl size_end) hHeld ?_
      simp only [Act.put, sA, sZ, sS]
      refine tkY 7 26 (.agg C1) rfl (HC1.out ▸ yieldsIf_load_mid (by rfl) 25 _ rfl w.heap.size 0 rfl (adL a) _ (fun W hW => Blk_10.range (HQ6.out W hW)) Try.underlying25 rfl (sizeAdL HAL.out)) hHeld ?_
      simp only [Act.put, sA, sZ, sS]
      refine tk 8 27 (.int .i64 m) rfl hHeld ?_
      simp only [Act.put, sA, sZ, sS]
      refine wpAnyH_ready (rs := [9]) (by kernel_rfl) (by simp) (AllReadyH.cons (o := ⟨some 28, _, _, _, _, _⟩) rfl (fun K hK => ?_) AllReadyH.nil)
      go_simp
      refine (HREW.out _ (HB5.out.trans (hHeld.mono HB5.out.size))).mono ?_
      rintro e w7 ⟨v7, rfl, ho7, hb7⟩
      have HO7 := Lib.hid (ho7.base_le (Nat.le_trans HB5.out.size hHeld.size))
      refine hK.out _ _ (hHeld.trans (hb7.mono hHeld.size)) (fun hHeld => ?_)
      clear hK K ho7 hb7
      refine tk 10 6 v7 rfl hHeld ?_
      simp only [Act.put, sA, sZ, sS]
      refine tk 11 7 (.int .i64 0) rfl hHeld ?_
      simp only [Act.put, sA, sZ, sS]
      refine wpAnyH_done (by kernel_rfl) ?_ _
      go_wp2_with fail
      go_ret2
      exact ⟨fun h => (by rw [HM.out] at h; cases h), fun _ => ⟨_, rfl, HO7.out⟩, HB5.out.trans (hHeld.mono HB5.out.size)⟩
    | true =>
      have HPLC := Lib.hid (fun W => nplaces_6 HOK.out hpl.1 hpl.2 u k3 k2 k9 k5 W)
      have HREW := Lib.hid (fun W (hB : Below w.heap.size w W) => show Calls Try.prog 24 #[plcC ((p : Int) + 8) ((p + n.head : Nat) : Int) ((p : Int) + 24) (((p + n.head : Nat) : Int) + 2) 16 0 ((p + n.head + plc u : Nat) : Int) u, .slice A (p + n.total) cap, endC ((p : Int) + 24) (((p + n.head : Nat) : Int) + 2), adC a, .int .i64 m] W fun e w' => ∃ v, e = .returned v ∧ Own8 w' W.heap.size v (natL xs a m true) ∧ Below W.heap.size W w' by
        have := nrew_6 ((p : Int) + 8) ((p + n.head : Nat) : Int) ((p : Int) + 24) (((p + n.head : Nat) : Int) + 2) (ad := p + 24) (pt := p + n.head + 2) (ck := p + n.head + plc u) u HAL.out hml (A := A) (len := p + n.total) (cap := cap) (xs := z) hok (by omega) W (HTK.out W hB)
        rw [show ((p + 24 : Nat) : Int) = (p : Int) + 24 by omega, show ((p + n.head + 2 : Nat) : Int) = ((p + n.head : Nat) : Int) + 2 by omega] at this
        rw [HNAT.out, hmn]
        exact this)
      obtain ⟨e0, he0⟩ : ∃ e0, p + n.total = e0 := ⟨_, rfl⟩
      rw [he0] at HUP HKE HREW
      obtain ⟨s0, hs0⟩ : ∃ s0, p + n.head = s0 := ⟨_, rfl⟩
      rw [hs0] at HPLC HREW
      obtain ⟨ck, hck⟩ : ∃ c, s0 + plc u = c := ⟨_, rfl⟩
      rw [hck] at HPLC HREW
      rw [E1.out] at HREW
      have hel : e0 ≤ len := by omega
      clear hk0 hof m0 m1 hA k1 k2 k3 k4 k5 k6 k7 k8 k9 hbd hbx h0' hok hTL hh1 HNAT hmn hmt hml HTK hpl he0 hs0 hck
      go_wp2_with (((with_reducible show wpList _ _ _ (⟨some 17, _, _, _, _, _⟩ :: _) _ _); refine wpList_loadPk (op := ⟨some 17, _, _, _, _, _⟩) _ rfl (by rfl) G (by rfl) k HOK.out HP3.out ?_))
      refine (HPLC.out _).mono ?_
      rintro e w4 ⟨rfl, hb4⟩
      have HB4 := Lib.hid (HB3.out.trans (hb4.mono HB3.out.size))
      have HQ4 := Lib.hid (HQ3.out.below HQ3.out.lt hb4)
      have HP4 := Lib.hid (HP3.out.below HP3.out.lt hb4)
      clear hb4
      go_wp2_with (first
        | ((with_reducible show wpList _ _ _ (⟨none, .store 57 (.tmp 9) _, _, _, _, _⟩ :: _) _ _); refine wpList_storeNewG rfl 57 _ _ rfl (by rfl) (plcL ((p : Int) + 8) (s0 : Int) ((p : Int) + 24) ((s0 : Int) + 2) 16 0 (ck : Int) u) (by rfl) rfl (sizePl _ _ _ _ _ _ _ _) (plcL_one _ _ _ _ _ _ _ _) ?_; intro w5 hl5 hb5 hz5; clear hz5; have HL5 := Lib.hid hl5; have HB5 := Lib.hid (HB4.out.trans (hb5.mono HB4.out.size)); have HQ5 := Lib.hid (HQ4.out.below HQ4.out.lt hb5); have HP5 := Lib.hid (HP4.out.below HP4.out.lt hb5); clear hl5 hb5; generalize w4.heap.size = H at HL5 ⊢))
      have HKE5 := Lib.hid (fun W (hW : Below w5.heap.size w5 W) => HKE.out W (HP5.out.below HP5.out.lt hW))
      have HL6 := Lib.hid (fun W (hW : Below w5.heap.size w5 W) => HL5.out.below HL5.out.lt hW)
      have HQ6 := Lib.hid (fun W (hW : Below w5.heap.size w5 W) => HQ5.out.below HQ5.out.lt hW)
      have hup := HUP.out
      refine wp_region_held_drew (S := fun W => Below w5.heap.size w5 W) (by kernel_rfl) ((Below.refl _ _).drew) (fun hHeld => ?_)
      obtain ⟨X, hX⟩ : ∃ X, w5.drew = X := ⟨_, rfl⟩
      rw [hX] at hHeld ⊢
      clear hX
      refine tkY 0 19 (.agg (plcL ((p : Int) + 8) (s0 : Int) ((p : Int) + 24) ((s0 : Int) + 2) 16 0 (ck : Int) u).toArray) rfl (yieldsIf_load_mid (by rfl) 57 _ rfl H 0 rfl (plcL ((p : Int) + 8) (s0 : Int) ((p : Int) + 24) ((s0 : Int) + 2) 16 0 (ck : Int) u) _ (fun W hW => Blk_10.range (HL6.out W hW)) Try.underlying57 rfl (sizePl _ _ _ _ _ _ _ _)) hHeld ?_
      simp only [Act.put, sA, sZ, sS]
      refine tk 1 20 (.slice A len cap) rfl hHeld ?_
      simp only [Act.put, sA, sZ, sS]
      refine tk 2 21 (.pointer (some ⟨G, 41, none⟩)) rfl hHeld ?_
      simp only [Act.put, sA, sZ, sS]
      refine tkY 3 22 (.int .i64 (e0 : Int)) rfl (Or.inl ⟨by rfl, fun W hW => by have hc := HKE5.out W hW; go_simp⟩) hHeld ?_
      simp only [Act.put, sA, sZ, sS]
      refine tkY 4 23 (.slice A e0 cap) rfl (Or.inl ⟨by rfl, fun W _ => by have hs := HUP.out W; go_simp⟩) hHeld ?_
      simp only [Act.put, sA, sZ, sS]
      refine tk 5 24 (.pointer (some ⟨H, 2, none⟩)) rfl hHeld ?_
      simp only [Act.put, sA, sZ, sS]
      refine tkY 6 25 (endC ((p : Int) + 24) ((s0 : Int) + 2)) rfl (yieldsIf_load_mid (by rfl) 55 _ rfl H 2 rfl [.int .i64 ((p : Int) + 24), .int .i64 ((s0 : Int) + 2)] _ (fun W hW => end_mid2 (HL6.out W hW)) Try.underlying55 rfl size_end) hHeld ?_
      simp only [Act.put, sA, sZ, sS]
      refine tkY 7 26 (.agg C1) rfl (HC1.out ▸ yieldsIf_load_mid (by rfl) 25 _ rfl w.heap.size 0 rfl (adL a) _ (fun W hW => Blk_10.range (HQ6.out W hW)) Try.underlying25 rfl (sizeAdL HAL.out)) hHeld ?_
      simp only [Act.put, sA, sZ, sS]
      refine tk 8 27 (.int .i64 m) rfl hHeld ?_
      simp only [Act.put, sA, sZ, sS]
      refine wpAnyH_ready (rs := [9]) (by kernel_rfl) (by simp) (AllReadyH.cons (o := ⟨some 28, _, _, _, _, _⟩) rfl (fun K hK => ?_) AllReadyH.nil)
      go_simp
      refine (HREW.out _ (HB5.out.trans (hHeld.mono HB5.out.size))).mono ?_
      rintro e w7 ⟨v7, rfl, ho7, hb7⟩
      have HO7 := Lib.hid (ho7.base_le (Nat.le_trans HB5.out.size hHeld.size))
      refine hK.out _ _ (hHeld.trans (hb7.mono hHeld.size)) (fun hHeld => ?_)
      clear hK K ho7 hb7
      refine tk 10 6 v7 rfl hHeld ?_
      simp only [Act.put, sA, sZ, sS]
      refine tk 11 7 (.int .i64 0) rfl hHeld ?_
      simp only [Act.put, sA, sZ, sS]
      refine wpAnyH_done (by kernel_rfl) ?_ _
      go_wp2_with fail
      go_ret2
      exact ⟨fun h => (by rw [HM.out] at h; cases h), fun _ => ⟨_, rfl, HO7.out⟩, HB5.out.trans (hHeld.mono HB5.out.size)⟩

set_option maxHeartbeats 16000000 in
theorem nfrom_any {a : Ad} (ha : a.b.length = 16) {m : Int} {A : Option Addr} {len cap : Nat} {xs : List UInt8} (hlen : len ≤ 100000) (hcap : len ≤ cap) (hcm : cap ≤ maxLen) (w : World) (hI : Rd w w.heap.size A len xs) :
    Calls Try.prog 11 #[.slice A len cap, adC a, .int .i64 m] w (NatGave w xs a m false) := by
  obtain ⟨Y, hY, hq, hbel⟩ := box_ad w a
  have HXL := Lib.hid hI.len
  have HRF := Lib.hid (fun W (hB : Below w.heap.size w W) => (hI.below hB).more hB.size)
  have HRD := Lib.hid (pread_any A len cap xs hlen hcap hcm Y ((hI.below hbel).more hbel.size))
  have HOK := Lib.hid (readK_ok xs)
  have HMAY := Lib.hid (fun W => may_eq xs a m ▸ nmay_any HOK.out ha m W)
  obtain ⟨b, hb⟩ : ∃ b, mayN (readK xs) a m = b := ⟨_, rfl⟩
  have HM := Lib.hid hb
  rw [hb] at HMAY
  obtain ⟨k, hk⟩ : ∃ k, readK xs = k := ⟨_, rfl⟩
  have HK := Lib.hid hk
  rw [hk] at HRD HOK HMAY
  have HAL := Lib.hid ha
  have E1 := Lib.hid (show adC a = .agg (adL a).toArray from rfl)
  rw [E1.out]
  rw [E1.out] at HMAY
  obtain ⟨C1, hC1⟩ : ∃ C, (adL a).toArray = C := ⟨_, rfl⟩
  rw [hC1] at hY HMAY E1
  rw [hC1]
  have HC1 := Lib.hid hC1
  have HY := Lib.hid hY
  have HQ := Lib.hid hq
  have HB := Lib.hid hbel
  clear hY hq hbel hb hk ha hC1 hI
  go_enter Try.func11, Try.ntmps11
  go_wp2_with fail
  rw [HY.out]
  refine HRD.out.mono ?_
  rintro e w1 ⟨rfl, hb1⟩
  have HB1 := Lib.hid (HB.out.trans (hb1.mono HB.out.size))
  have HQ1 := Lib.hid (HQ.out.below HQ.out.lt hb1)
  clear hb1
  go_wp2_with (first
    | ((with_reducible show wpList _ _ _ (⟨none, .store 37 (.tmp 8) _, _, _, _, _⟩ :: _) _ _); refine wpList_storePk rfl (.tmp 8) _ rfl (by rfl) k HOK.out (by rfl) (by rfl) ?_; intro w2 hp2 hb2; have HP2 := Lib.hid hp2; have HB2 := Lib.hid (HB1.out.trans (hb2.mono HB1.out.size)); have HQ2 := Lib.hid (HQ1.out.below HQ1.out.lt hb2); clear hp2 hb2; generalize w1.heap.size = G at HP2 ⊢)
    | ((with_reducible show wpList _ _ _ (⟨some 12, _, _, _, _, _⟩ :: _) _ _); refine wpList_loadPk (op := ⟨some 12, _, _, _, _, _⟩) _ rfl (by rfl) G (by rfl) k HOK.out HP2.out ?_)
    | ((with_reducible show wpList _ _ _ (⟨some 13, _, _, _, _, _⟩ :: _) _ _); refine wpList_loadM (op := ⟨some 13, _, _, _, _, _⟩) 25 _ rfl (by rfl) w.heap.size 0 (by rfl) (adL a) (Blk_10.range HQ2.out) _ Try.underlying25 rfl (sizeAdL HAL.out) ?_; rw [HC1.out]))
  refine (HMAY.out _).mono ?_
  rintro e w3 ⟨rfl, hb3⟩
  have HB3 := Lib.hid (HB2.out.trans (hb3.mono HB2.out.size))
  have HQ3 := Lib.hid (HQ2.out.below HQ2.out.lt hb3)
  have HP3 := Lib.hid (HP2.out.below HP2.out.lt hb3)
  clear hb3
  cases b with
  | false =>
    go_wp2_with fail
    go_ret2
    exact ⟨fun _ => rfl, fun h => (by rw [HM.out] at h; cases h), HB3.out⟩
  | true =>
    obtain ⟨hk0, hof, m0, m1⟩ := mayN_yes HM.out
    obtain ⟨z, six, n, p, u, hA⟩ := at_fine hk0
    obtain ⟨k1, k2, k3, k4, k5, k6, k7, k8, k9, _⟩ := hA.en
    have hbd := hA.f.bnd
    have hbx := hA.x
    have h0' := hbd.h0
    have hok := hbd.ok false
    have hTL : p + n.total ≤ len := by rw [← HXL.out]; exact hbx
    have hh1 := hbd.h1
    have HNAT := Lib.hid (hA.nat a m false)
    rw [HK.out] at k1 k2 k3 k4 k5 k6 k9 hof
    rw [k4] at hof
    obtain ⟨mn, hmn⟩ : ∃ q : Nat, m = (q : Int) := ⟨m.toNat, by omega⟩
    have hmt : m.toNat = mn := by omega
    rw [hmt] at HNAT
    have hml : mn < 65536 := by omega
    have HUP := Lib.hid (fun W => run_upto8 A len cap (p + n.total) ((p + n.total : Nat) : Int) rfl (by omega) W)
    have HTK := Lib.hid (fun W (hB : Below w.heap.size w W) => show Rd W W.heap.size A (p + n.total) z from hA.zt ▸ (HRF.out W hB).take (k := p + n.total) hTL)
    have HKE := Lib.hid (fun W (h : Blk W 37 G (pkL k)) => show W.cell? ⟨G, 41, none⟩ = some (.int .i64 ((p + n.total : Nat) : Int)) from k1 ▸ (pk_cells h HOK.out).2.2.2.2)
    have hpl : p ≤ 1000000 ∧ p + n.head ≤ 1000000 := ⟨by omega, by omega⟩
    cases six with
    | false =>
      have HPLC := Lib.hid (fun W => nplaces_4 HOK.out hpl.1 hpl.2 u k3 k2 k9 k5 W)
      have HREW := Lib.hid (fun W (hB : Below w.heap.size w W) => show Calls Try.prog 24 #[plcC ((p : Int) + 12) ((p + n.head : Nat) : Int) ((p : Int) + 16) (((p + n.head : Nat) : Int) + 2) 4 ((p : Int) + 10) ((p + n.head + plc u : Nat) : Int) u, .slice A (p + n.total) cap, endC ((p : Int) + 12) (((p + n.head : Nat) : Int)), adC a, .int .i64 m] W fun e w' => ∃ v, e = .returned v ∧ Own8 w' W.heap.size v (natL xs a m false) ∧ Below W.heap.size W w' by
        have := nrew_4 ((p : Int) + 12) ((p + n.head : Nat) : Int) ((p : Int) + 16) (((p + n.head : Nat) : Int) + 2) (ad := p + 12) (pt := p + n.head) (hd := p + 10) (ck := p + n.head + plc u) u HAL.out hml (A := A) (len := p + n.total) (cap := cap) (xs := z) hok (by omega) (by omega) W (HTK.out W hB)
        rw [show ((p + 12 : Nat) : Int) = (p : Int) + 12 by omega, show ((p + 10 : Nat) : Int) = (p : Int) + 10 by omega] at this
        rw [HNAT.out, hmn]
        exact this)
      obtain ⟨e0, he0⟩ : ∃ e0, p + n.total = e0 := ⟨_, rfl⟩
      rw [he0] at HUP HKE HREW
      obtain ⟨s0, hs0⟩ : ∃ s0, p + n.head = s0 := ⟨_, rfl⟩
      rw [hs0] at HPLC HREW
      obtain ⟨ck, hck⟩ : ∃ c, s0 + plc u = c := ⟨_, rfl⟩
      rw [hck] at HPLC HREW
      rw [E1.out] at HREW
      have hel : e0 ≤ len := by omega
      clear hk0 hof m0 m1 hA k1 k2 k3 k4 k5 k6 k7 k8 k9 hbd hbx h0' hok hTL hh1 HNAT hmn hmt hml HTK hpl he0 hs0 hck
      go_wp2_with (((with_reducible show wpList _ _ _ (⟨some 17, _, _, _, _, _⟩ :: _) _ _); refine wpList_loadPk (op := ⟨some 17, _, _, _, _, _⟩) _ rfl (by rfl) G (by rfl) k HOK.out HP3.out ?_))
      refine (HPLC.out _).mono ?_
      rintro e w4 ⟨rfl, hb4⟩
      have HB4 := Lib.hid (HB3.out.trans (hb4.mono HB3.out.size))
      have HQ4 := Lib.hid (HQ3.out.below HQ3.out.lt hb4)
      have HP4 := Lib.hid (HP3.out.below HP3.out.lt hb4)
      clear hb4
      go_wp2_with (first
        | ((with_reducible show wpList _ _ _ (⟨none, .store 57 (.tmp 9) _, _, _, _, _⟩ :: _) _ _); refine wpList_storeNewG rfl 57 _ _ rfl (by rfl) (plcL ((p : Int) + 12) (s0 : Int) ((p : Int) + 16) ((s0 : Int) + 2) 4 ((p : Int) + 10) (ck : Int) u) (by rfl) rfl (sizePl _ _ _ _ _ _ _ _) (plcL_one _ _ _ _ _ _ _ _) ?_; intro w5 hl5 hb5 hz5; clear hz5; have HL5 := Lib.hid hl5; have HB5 := Lib.hid (HB4.out.trans (hb5.mono HB4.out.size)); have HQ5 := Lib.hid (HQ4.out.below HQ4.out.lt hb5); have HP5 := Lib.hid (HP4.out.below HP4.out.lt hb5); clear hl5 hb5; generalize w4.heap.size = H at HL5 ⊢))
      have HKE5 := Lib.hid (fun W (hW : Below w5.heap.size w5 W) => HKE.out W (HP5.out.below HP5.out.lt hW))
      have HL6 := Lib.hid (fun W (hW : Below w5.heap.size w5 W) => HL5.out.below HL5.out.lt hW)
      have HQ6 := Lib.hid (fun W (hW : Below w5.heap.size w5 W) => HQ5.out.below HQ5.out.lt hW)
      have hup := HUP.out
      refine wp_region_held_drew (S := fun W => Below w5.heap.size w5 W) (by kernel_rfl) ((Below.refl _ _).drew) (fun hHeld => ?_)
      obtain ⟨X, hX⟩ : ∃ X, w5.drew = X := ⟨_, rfl⟩
      rw [hX] at hHeld ⊢
      clear hX
      refine tkY 0 19 (.agg (plcL ((p : Int) + 12) (s0 : Int) ((p : Int) + 16) ((s0 : Int) + 2) 4 ((p : Int) + 10) (ck : Int) u).toArray) rfl (yieldsIf_load_mid (by rfl) 57 _ rfl H 0 rfl (plcL ((p : Int) + 12) (s0 : Int) ((p : Int) + 16) ((s0 : Int) + 2) 4 ((p : Int) + 10) (ck : Int) u) _ (fun W hW => Blk_10.range (HL6.out W hW)) Try.underlying57 rfl (sizePl _ _ _ _ _ _ _ _)) hHeld ?_
      simp only [Act.put, sA, sZ, sS]
      refine tk 1 20 (.slice A len cap) rfl hHeld ?_
      simp only [Act.put, sA, sZ, sS]
      refine tk 2 21 (.pointer (some ⟨G, 41, none⟩)) rfl hHeld ?_
      simp only [Act.put, sA, sZ, sS]
      refine tkY 3 22 (.int .i64 (e0 : Int)) rfl (Or.inl ⟨by rfl, fun W hW => by have hc := HKE5.out W hW; go_simp⟩) hHeld ?_
      simp only [Act.put, sA, sZ, sS]
      refine tkY 4 23 (.slice A e0 cap) rfl (Or.inl ⟨by rfl, fun W _ => by have hs := HUP.out W; go_simp⟩) hHeld ?_
      simp only [Act.put, sA, sZ, sS]
      refine tk 5 24 (.pointer (some ⟨H, 0, none⟩)) rfl hHeld ?_
      simp only [Act.put, sA, sZ, sS]
      refine tkY 6 25 (endC ((p : Int) + 12) ((s0 : Int))) rfl (yieldsIf_load_mid (by rfl) 55 _ rfl H 0 rfl [.int .i64 ((p : Int) + 12), .int .i64 ((s0 : Int))] _ (fun W hW => end_mid0 (HL6.out W hW)) Try.underlying55 rfl size_end) hHeld ?_
      simp only [Act.put, sA, sZ, sS]
      refine tkY 7 26 (.agg C1) rfl (HC1.out ▸ yieldsIf_load_mid (by rfl) 25 _ rfl w.heap.size 0 rfl (adL a) _ (fun W hW => Blk_10.range (HQ6.out W hW)) Try.underlying25 rfl (sizeAdL HAL.out)) hHeld ?_
      simp only [Act.put, sA, sZ, sS]
      refine tk 8 27 (.int .i64 m) rfl hHeld ?_
      simp only [Act.put, sA, sZ, sS]
      refine wpAnyH_ready (rs := [9]) (by kernel_rfl) (by simp) (AllReadyH.cons (o := ⟨some 28, _, _, _, _, _⟩) rfl (fun K hK => ?_) AllReadyH.nil)
      go_simp
      refine (HREW.out _ (HB5.out.trans (hHeld.mono HB5.out.size))).mono ?_
      rintro e w7 ⟨v7, rfl, ho7, hb7⟩
      have HO7 := Lib.hid (ho7.base_le (Nat.le_trans HB5.out.size hHeld.size))
      refine hK.out _ _ (hHeld.trans (hb7.mono hHeld.size)) (fun hHeld => ?_)
      clear hK K ho7 hb7
      refine tk 10 6 v7 rfl hHeld ?_
      simp only [Act.put, sA, sZ, sS]
      refine tk 11 7 (.int .i64 0) rfl hHeld ?_
      simp only [Act.put, sA, sZ, sS]
      refine wpAnyH_done (by kernel_rfl) ?_ _
      go_wp2_with fail
      go_ret2
      exact ⟨fun h => (by rw [HM.out] at h; cases h), fun _ => ⟨_, rfl, HO7.out⟩, HB5.out.trans (hHeld.mono HB5.out.size)⟩
    | true =>
      have HPLC := Lib.hid (fun W => nplaces_6 HOK.out hpl.1 hpl.2 u k3 k2 k9 k5 W)
      have HREW := Lib.hid (fun W (hB : Below w.heap.size w W) => show Calls Try.prog 24 #[plcC ((p : Int) + 8) ((p + n.head : Nat) : Int) ((p : Int) + 24) (((p + n.head : Nat) : Int) + 2) 16 0 ((p + n.head + plc u : Nat) : Int) u, .slice A (p + n.total) cap, endC ((p : Int) + 8) (((p + n.head : Nat) : Int)), adC a, .int .i64 m] W fun e w' => ∃ v, e = .returned v ∧ Own8 w' W.heap.size v (natL xs a m false) ∧ Below W.heap.size W w' by
        have := nrew_6 ((p : Int) + 8) ((p + n.head : Nat) : Int) ((p : Int) + 24) (((p + n.head : Nat) : Int) + 2) (ad := p + 8) (pt := p + n.head) (ck := p + n.head + plc u) u HAL.out hml (A := A) (len := p + n.total) (cap := cap) (xs := z) hok (by omega) W (HTK.out W hB)
        rw [show ((p + 8 : Nat) : Int) = (p : Int) + 8 by omega] at this
        rw [HNAT.out, hmn]
        exact this)
      obtain ⟨e0, he0⟩ : ∃ e0, p + n.total = e0 := ⟨_, rfl⟩
      rw [he0] at HUP HKE HREW
      obtain ⟨s0, hs0⟩ : ∃ s0, p + n.head = s0 := ⟨_, rfl⟩
      rw [hs0] at HPLC HREW
      obtain ⟨ck, hck⟩ : ∃ c, s0 + plc u = c := ⟨_, rfl⟩
      rw [hck] at HPLC HREW
      rw [E1.out] at HREW
      have hel : e0 ≤ len := by omega
      clear hk0 hof m0 m1 hA k1 k2 k3 k4 k5 k6 k7 k8 k9 hbd hbx h0' hok hTL hh1 HNAT hmn hmt hml HTK hpl he0 hs0 hck
      go_wp2_with (((with_reducible show wpList _ _ _ (⟨some 17, _, _, _, _, _⟩ :: _) _ _); refine wpList_loadPk (op := ⟨some 17, _, _, _, _, _⟩) _ rfl (by rfl) G (by rfl) k HOK.out HP3.out ?_))
      refine (HPLC.out _).mono ?_
      rintro e w4 ⟨rfl, hb4⟩
      have HB4 := Lib.hid (HB3.out.trans (hb4.mono HB3.out.size))
      have HQ4 := Lib.hid (HQ3.out.below HQ3.out.lt hb4)
      have HP4 := Lib.hid (HP3.out.below HP3.out.lt hb4)
      clear hb4
      go_wp2_with (first
        | ((with_reducible show wpList _ _ _ (⟨none, .store 57 (.tmp 9) _, _, _, _, _⟩ :: _) _ _); refine wpList_storeNewG rfl 57 _ _ rfl (by rfl) (plcL ((p : Int) + 8) (s0 : Int) ((p : Int) + 24) ((s0 : Int) + 2) 16 0 (ck : Int) u) (by rfl) rfl (sizePl _ _ _ _ _ _ _ _) (plcL_one _ _ _ _ _ _ _ _) ?_; intro w5 hl5 hb5 hz5; clear hz5; have HL5 := Lib.hid hl5; have HB5 := Lib.hid (HB4.out.trans (hb5.mono HB4.out.size)); have HQ5 := Lib.hid (HQ4.out.below HQ4.out.lt hb5); have HP5 := Lib.hid (HP4.out.below HP4.out.lt hb5); clear hl5 hb5; generalize w4.heap.size = H at HL5 ⊢))
      have HKE5 := Lib.hid (fun W (hW : Below w5.heap.size w5 W) => HKE.out W (HP5.out.below HP5.out.lt hW))
      have HL6 := Lib.hid (fun W (hW : Below w5.heap.size w5 W) => HL5.out.below HL5.out.lt hW)
      have HQ6 := Lib.hid (fun W (hW : Below w5.heap.size w5 W) => HQ5.out.below HQ5.out.lt hW)
      have hup := HUP.out
      refine wp_region_held_drew (S := fun W => Below w5.heap.size w5 W) (by kernel_rfl) ((Below.refl _ _).drew) (fun hHeld => ?_)
      obtain ⟨X, hX⟩ : ∃ X, w5.drew = X := ⟨_, rfl⟩
      rw [hX] at hHeld ⊢
      clear hX
      refine tkY 0 19 (.agg (plcL ((p : Int) + 8) (s0 : Int) ((p : Int) + 24) ((s0 : Int) + 2) 16 0 (ck : Int) u).toArray) rfl (yieldsIf_load_mid (by rfl) 57 _ rfl H 0 rfl (plcL ((p : Int) + 8) (s0 : Int) ((p : Int) + 24) ((s0 : Int) + 2) 16 0 (ck : Int) u) _ (fun W hW => Blk_10.range (HL6.out W hW)) Try.underlying57 rfl (sizePl _ _ _ _ _ _ _ _)) hHeld ?_
      simp only [Act.put, sA, sZ, sS]
      refine tk 1 20 (.slice A len cap) rfl hHeld ?_
      simp only [Act.put, sA, sZ, sS]
      refine tk 2 21 (.pointer (some ⟨G, 41, none⟩)) rfl hHeld ?_
      simp only [Act.put, sA, sZ, sS]
      refine tkY 3 22 (.int .i64 (e0 : Int)) rfl (Or.inl ⟨by rfl, fun W hW => by have hc := HKE5.out W hW; go_simp⟩) hHeld ?_
      simp only [Act.put, sA, sZ, sS]
      refine tkY 4 23 (.slice A e0 cap) rfl (Or.inl ⟨by rfl, fun W _ => by have hs := HUP.out W; go_simp⟩) hHeld ?_
      simp only [Act.put, sA, sZ, sS]
      refine tk 5 24 (.pointer (some ⟨H, 0, none⟩)) rfl hHeld ?_
      simp only [Act.put, sA, sZ, sS]
      refine tkY 6 25 (endC ((p : Int) + 8) ((s0 : Int))) rfl (yieldsIf_load_mid (by rfl) 55 _ rfl H 0 rfl [.int .i64 ((p : Int) + 8), .int .i64 ((s0 : Int))] _ (fun W hW => end_mid0 (HL6.out W hW)) Try.underlying55 rfl size_end) hHeld ?_
      simp only [Act.put, sA, sZ, sS]
      refine tkY 7 26 (.agg C1) rfl (HC1.out ▸ yieldsIf_load_mid (by rfl) 25 _ rfl w.heap.size 0 rfl (adL a) _ (fun W hW => Blk_10.range (HQ6.out W hW)) Try.underlying25 rfl (sizeAdL HAL.out)) hHeld ?_
      simp only [Act.put, sA, sZ, sS]
      refine tk 8 27 (.int .i64 m) rfl hHeld ?_
      simp only [Act.put, sA, sZ, sS]
      refine wpAnyH_ready (rs := [9]) (by kernel_rfl) (by simp) (AllReadyH.cons (o := ⟨some 28, _, _, _, _, _⟩) rfl (fun K hK => ?_) AllReadyH.nil)
      go_simp
      refine (HREW.out _ (HB5.out.trans (hHeld.mono HB5.out.size))).mono ?_
      rintro e w7 ⟨v7, rfl, ho7, hb7⟩
      have HO7 := Lib.hid (ho7.base_le (Nat.le_trans HB5.out.size hHeld.size))
      refine hK.out _ _ (hHeld.trans (hb7.mono hHeld.size)) (fun hHeld => ?_)
      clear hK K ho7 hb7
      refine tk 10 6 v7 rfl hHeld ?_
      simp only [Act.put, sA, sZ, sS]
      refine tk 11 7 (.int .i64 0) rfl hHeld ?_
      simp only [Act.put, sA, sZ, sS]
      refine wpAnyH_done (by kernel_rfl) ?_ _
      go_wp2_with fail
      go_ret2
      exact ⟨fun h => (by rw [HM.out] at h; cases h), fun _ => ⟨_, rfl, HO7.out⟩, HB5.out.trans (hHeld.mono HB5.out.size)⟩
end Go.Proofs.Ytkmcopenflakkaa
