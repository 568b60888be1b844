/-
  The document's Unwrap.
-/
import Derived.Test.YtomkfcpellcncaaTRNet
import Derived.Test.YtomkfcpellcncaaTWrap
import Derived.Deep.DeepCutAuto
namespace Go.Proofs.Ytomkfcpellcncaa
set_option maxRecDepth 100000
open Go.RowKit Go.Lib

/-- What the document's Unwrap answers. -/
def RuGave (w : World) (xs : List UInt8) (e : Ending) (w' : World) : Prop :=
  (unB xs = true → ∃ v, e = .returned (.tuple #[v, .bool true]) ∧ Own8 w' w.heap.size v (unL xs)) ∧
  (unB xs = false → e = .returned (.tuple #[.slice none 0 0, .bool false])) ∧ Below w.heap.size w w'

set_option maxHeartbeats 4000000 in
theorem runw_no (A : Option Addr) (len cap : Nat) (xs : List UInt8) (hlen : len ≤ 90000) (h0 : (rdOf xs).2 ≠ 0) (w : World) (hI : Rd w w.heap.size A len xs) :
    Calls Try.prog 14 #[.slice A len cap] w fun e w' => e = .returned (.tuple #[.slice none 0 0, .bool false]) ∧ Below w.heap.size w w' := by
  have hRD := rread_any_7 A len cap xs (by omega) w hI
  unfold ReadGave_7 at hRD
  have H6 := Lib.hid ((rdOf_six xs (rdOf xs).1 (rdOf xs).2 rfl).1)
  obtain ⟨L, hL⟩ : ∃ L, (rdOf xs).1 = L := ⟨_, rfl⟩
  obtain ⟨E, hE⟩ : ∃ E, (rdOf xs).2 = E := ⟨_, rfl⟩
  rw [hL, hE] at hRD
  rw [hL] at H6
  rw [hE] at h0
  have bE : ((E : Int) == 0) = false := by simp; omega
  have bE2 : (E == 0) = false := by simp [h0]
  have bE3 : ((E : Int) != 0) = true := by simp; omega
  have HRD := Lib.hid hRD
  clear hRD h0 hI hL hE
  go_enter Try.func14, Try.ntmps14
  go_wp2_with fail
  refine HRD.out.mono ?_
  rintro e w1 ⟨tv, rfl, hown, hb1⟩
  obtain ⟨At, mt, ct, rfl, q1, q2, q3, q4, q5⟩ := hown.sl
  have HTA := Lib.hid hown
  have HB1 := Lib.hid hb1
  clear hb1 hown q1 q2 q3 q4 q5
  go_wp2_with (((with_reducible show wpList _ _ _ (⟨none, .store 41 (.tmp 4) (.tmp 20), _, _, _, _⟩ :: _) _ _); refine wpList_storeNewG (op := ⟨none, .store 41 (.tmp 4) (.tmp 20), _, _, _, _⟩) rfl 41 _ _ rfl (by rfl) (lkL L (.slice At mt ct)) (by rfl) (by rw [lkL_len H6.out]; rfl) (sizeLkL H6.out _) (lkL_one L _ rfl) ?_; intro w2 hl2 hb2 hz2; clear hz2; have HB2 := Lib.hid (HB1.out.trans (hb2.mono HB1.out.size)); have HTA2 := Lib.hid (HTA.out.below hb2); have HLTA := Lib.hid (fun g hg => (HTA.out.lt g hg).2); have HG := Lib.hid HB1.out.size; have HK2 := Lib.hid hl2; clear hl2 hb2; generalize w1.heap.size = G at HK2 HG HLTA ⊢))
  go_ret2
  exact ⟨rfl, HB2.out⟩

set_option maxHeartbeats 8000000 in
theorem runw_bad (A : Option Addr) (len cap : Nat) (xs : List UInt8) (hlen : len ≤ 90000) (hcap : len ≤ cap) (h0 : (rdOf xs).2 = 0) (hne : (fN xs).e ≠ 0) (w : World) (hI : Rd w w.heap.size A len xs) :
    Calls Try.prog 14 #[.slice A len cap] w fun e w' => e = .returned (.tuple #[.slice none 0 0, .bool false]) ∧ Below w.heap.size w w' := by
  have hRD := rread_any_7 A len cap xs (by omega) w hI
  unfold ReadGave_7 at hRD
  have H6 := Lib.hid ((rdOf_six xs (rdOf xs).1 (rdOf xs).2 rfl).1)
  obtain ⟨L, hL⟩ : ∃ L, (rdOf xs).1 = L := ⟨_, rfl⟩
  obtain ⟨a1, a2, a3, a4, _⟩ := atK_ok h0
  obtain ⟨p, hp⟩ : ∃ p, atK xs = p := ⟨_, rfl⟩
  have hfN := fN_yes h0
  rw [hL, h0] at hRD
  rw [hL] at H6 a1
  rw [hL, hp] at hfN
  rw [hp] at a1 a2 a3 a4
  rw [hI.len] at a2
  have HRR := Lib.hid (hI.from (l := p) a2 cap hcap)
  have hcut := fun W => run_from8 A len cap p a2 W
  obtain ⟨RA, hRA⟩ : ∃ R, cutA A cap p = R := ⟨_, rfl⟩
  obtain ⟨rl, hrl⟩ : ∃ n, len - p = n := ⟨_, rfl⟩
  obtain ⟨rc, hrc⟩ : ∃ n, cap - p = n := ⟨_, rfl⟩
  have hrcl : rl ≤ rc := by omega
  have hrll : rl ≤ 90000 := by omega
  rw [hRA, hrl, hrc] at hcut
  rw [hRA, hrl] at HRR
  have HCUT := Lib.hid hcut
  have HTY := Lib.hid (fun tv => (lk_ty L H6.out tv).1)
  have HAT := Lib.hid (fun tv => show (lkL L tv)[14]? = some (.int .i64 (p : Int)) from a1 ▸ (lk_ty L H6.out tv).2)
  have HNT := Lib.hid (fun W (hB : Below w.heap.size w W) => rnet_any L.ty RA rl rc (xs.drop p) (by omega) hrcl W ((HRR.out.below hB).more hB.size))
  rw [← hfN] at HNT
  unfold ntV at HNT
  have HRD := Lib.hid hRD
  obtain ⟨n, hn⟩ : ∃ n, fN xs = n := ⟨_, rfl⟩
  rw [hn] at HNT
  obtain ⟨T, hT⟩ : ∃ T, n.total = T := ⟨_, rfl⟩
  obtain ⟨hh, hhd⟩ : ∃ T, n.head = T := ⟨_, rfl⟩
  obtain ⟨pr, hpr⟩ : ∃ T, n.proto = T := ⟨_, rfl⟩
  obtain ⟨fr, hfr⟩ : ∃ T, n.frag = T := ⟨_, rfl⟩
  rw [hT, hhd, hpr, hfr] at HNT
  rw [hn] at hne
  rw [decide_eq_false hne] at HNT
  obtain ⟨ty, hty⟩ : ∃ ty, L.ty = ty := ⟨_, rfl⟩
  rw [hty] at HNT HTY
  clear hRD h0 hI hL a1 a2 a3 a4 hp hfN hcut hRA hrl hrc hrcl hrll hn hT hhd hpr hfr hne hty
  go_enter Try.func14, Try.ntmps14
  go_wp2_with fail
  refine HRD.out.mono ?_
  rintro e w1 ⟨tv, rfl, hown, hb1⟩
  obtain ⟨At, mt, ct, rfl, q1, q2, q3, q4, q5⟩ := hown.sl
  have HTA := Lib.hid hown
  have HB1 := Lib.hid hb1
  clear hb1 hown q1 q2 q3 q4 q5
  go_upto_region 4 with (((with_reducible show wpList _ _ _ (⟨none, .store 41 (.tmp 4) (.tmp 20), _, _, _, _⟩ :: _) _ _); refine wpList_storeNewG (op := ⟨none, .store 41 (.tmp 4) (.tmp 20), _, _, _, _⟩) rfl 41 _ _ rfl (by rfl) (lkL L (.slice At mt ct)) (by rfl) (by rw [lkL_len H6.out]; rfl) (sizeLkL H6.out _) (lkL_one L _ rfl) ?_; intro w2 hl2 hb2 hz2; clear hz2; have HB2 := Lib.hid (HB1.out.trans (hb2.mono HB1.out.size)); have HTA2 := Lib.hid (HTA.out.below hb2); have HLTA := Lib.hid (fun g hg => (HTA.out.lt g hg).2); have HG := Lib.hid HB1.out.size; have HK2 := Lib.hid hl2; clear hl2 hb2; generalize w1.heap.size = G at HK2 HG HLTA ⊢))
  have HT13 := Lib.hid (fun W (hW : Below w2.heap.size w2 W) => Blk_10.cell (HK2.out.below HK2.out.lt hW) (HTY.out (.slice At mt ct)))
  have HT14 := Lib.hid (fun W (hW : Below w2.heap.size w2 W) => Blk_10.cell (HK2.out.below HK2.out.lt hW) (HAT.out (.slice At mt ct)))
  refine wp_region_held_drew (S := fun W => Below w2.heap.size w2 W) (by kernel_rfl) ((Below.refl _ _).drew) (fun hHeld => ?_)
  obtain ⟨X, hX⟩ : ∃ X, w2.drew = X := ⟨_, rfl⟩
  rw [hX] at hHeld ⊢
  clear hX
  refine tk 0 25 (.pointer (some ⟨G, 13, none⟩)) rfl hHeld ?_
  simp only [Act.put, sA, sZ, sS]
  refine tkY 1 26 (.int .i64 ty) rfl (Or.inl ⟨by rfl, fun W hW => by have hc := HT13.out W hW; go_simp⟩) hHeld ?_
  simp only [Act.put, sA, sZ, sS]
  refine tk 2 27 (.slice A len cap) rfl hHeld ?_
  simp only [Act.put, sA, sZ, sS]
  refine tk 3 28 (.pointer (some ⟨G, 14, none⟩)) rfl hHeld ?_
  simp only [Act.put, sA, sZ, sS]
  refine tkY 4 29 (.int .i64 (p : Int)) rfl (Or.inl ⟨by rfl, fun W hW => by have hc := HT14.out W hW; go_simp⟩) hHeld ?_
  simp only [Act.put, sA, sZ, sS]
  refine tkY 5 30 (.slice RA rl rc) rfl (Or.inl ⟨by rfl, fun W _ => by have hs := HCUT.out W; go_simp⟩) hHeld ?_
  simp only [Act.put, sA, sZ, sS]
  refine wpAnyH_ready (rs := [6]) (by kernel_rfl) (by simp) (AllReadyH.cons (o := ⟨some 31, _, _, _, _, _⟩) rfl (fun K hK => ?_) AllReadyH.nil)
  go_simp
  refine (HNT.out _ (HB2.out.trans (hHeld.mono HB2.out.size))).mono ?_
  rintro e w3 ⟨rfl, hb3⟩
  refine hK.out _ _ (hHeld.trans (hb3.mono hHeld.size)) (fun hHeld => ?_)
  clear hK K hb3
  refine tk 7 24 (.tuple #[.int .i64 (hh : Int), .int .i64 (T : Int), .int .i64 (pr : Int), .bool fr, .bool false]) rfl hHeld ?_
  simp only [Act.put, sA, sZ, sS]
  refine tk 8 32 (.int .i64 (hh : Int)) rfl hHeld ?_
  simp only [Act.put, sA, sZ, sS]
  refine tk 9 33 (.int .i64 (T : Int)) rfl hHeld ?_
  simp only [Act.put, sA, sZ, sS]
  refine tk 10 34 (.int .i64 (pr : Int)) rfl hHeld ?_
  simp only [Act.put, sA, sZ, sS]
  refine tk 11 35 (.bool fr) rfl hHeld ?_
  simp only [Act.put, sA, sZ, sS]
  refine tk 12 36 (.bool false) rfl hHeld ?_
  simp only [Act.put, sA, sZ, sS]
  refine tk 13 6 (.int .i64 (hh : Int)) rfl hHeld ?_
  simp only [Act.put, sA, sZ, sS]
  refine tk 14 7 (.int .i64 (T : Int)) rfl hHeld ?_
  simp only [Act.put, sA, sZ, sS]
  refine tk 15 8 (.int .i64 (pr : Int)) rfl hHeld ?_
  simp only [Act.put, sA, sZ, sS]
  refine tk 16 9 (.bool fr) rfl hHeld ?_
  simp only [Act.put, sA, sZ, sS]
  refine tk 17 10 (.bool false) rfl hHeld ?_
  simp only [Act.put, sA, sZ, sS]
  refine wpAnyH_done (by kernel_rfl) ?_ _
  have HD3 := Lib.hid hHeld
  have HB3 := Lib.hid (HB2.out.trans (HD3.out.mono HB2.out.size))
  clear hHeld HT13 HT14
  go_wp2_with fail
  go_ret2
  exact ⟨rfl, HB3.out⟩

set_option maxHeartbeats 8000000 in
theorem runw_frag (A : Option Addr) (len cap : Nat) (xs : List UInt8) (hlen : len ≤ 90000) (hcap : len ≤ cap) (h0 : (rdOf xs).2 = 0) (he : (fN xs).e = 0) (hf1 : (fN xs).frag = true) (w : World) (hI : Rd w w.heap.size A len xs) :
    Calls Try.prog 14 #[.slice A len cap] w fun e w' => e = .returned (.tuple #[.slice none 0 0, .bool false]) ∧ Below w.heap.size w w' := by
  have hRD := rread_any_7 A len cap xs (by omega) w hI
  unfold ReadGave_7 at hRD
  have H6 := Lib.hid ((rdOf_six xs (rdOf xs).1 (rdOf xs).2 rfl).1)
  obtain ⟨L, hL⟩ : ∃ L, (rdOf xs).1 = L := ⟨_, rfl⟩
  obtain ⟨a1, a2, a3, a4, _⟩ := atK_ok h0
  obtain ⟨p, hp⟩ : ∃ p, atK xs = p := ⟨_, rfl⟩
  have hfN := fN_yes h0
  rw [hL, h0] at hRD
  rw [hL] at H6 a1
  rw [hL, hp] at hfN
  rw [hp] at a1 a2 a3 a4
  rw [hI.len] at a2
  have HRR := Lib.hid (hI.from (l := p) a2 cap hcap)
  have hcut := fun W => run_from8 A len cap p a2 W
  obtain ⟨RA, hRA⟩ : ∃ R, cutA A cap p = R := ⟨_, rfl⟩
  obtain ⟨rl, hrl⟩ : ∃ n, len - p = n := ⟨_, rfl⟩
  obtain ⟨rc, hrc⟩ : ∃ n, cap - p = n := ⟨_, rfl⟩
  have hrcl : rl ≤ rc := by omega
  have hrll : rl ≤ 90000 := by omega
  rw [hRA, hrl, hrc] at hcut
  rw [hRA, hrl] at HRR
  have HCUT := Lib.hid hcut
  have HTY := Lib.hid (fun tv => (lk_ty L H6.out tv).1)
  have HAT := Lib.hid (fun tv => show (lkL L tv)[14]? = some (.int .i64 (p : Int)) from a1 ▸ (lk_ty L H6.out tv).2)
  have HNT := Lib.hid (fun W (hB : Below w.heap.size w W) => rnet_any L.ty RA rl rc (xs.drop p) (by omega) hrcl W ((HRR.out.below hB).more hB.size))
  rw [← hfN] at HNT
  unfold ntV at HNT
  have HRD := Lib.hid hRD
  obtain ⟨n, hn⟩ : ∃ n, fN xs = n := ⟨_, rfl⟩
  rw [hn] at HNT
  obtain ⟨T, hT⟩ : ∃ T, n.total = T := ⟨_, rfl⟩
  obtain ⟨hh, hhd⟩ : ∃ T, n.head = T := ⟨_, rfl⟩
  obtain ⟨pr, hpr⟩ : ∃ T, n.proto = T := ⟨_, rfl⟩
  obtain ⟨fr, hfr⟩ : ∃ T, n.frag = T := ⟨_, rfl⟩
  rw [hT, hhd, hpr, hfr] at HNT
  rw [hn] at he hf1
  rw [decide_eq_true he] at HNT
  rw [hfr] at hf1
  subst hf1
  obtain ⟨ty, hty⟩ : ∃ ty, L.ty = ty := ⟨_, rfl⟩
  rw [hty] at HNT HTY
  clear hRD h0 hI hL a1 a2 a3 a4 hp hfN hcut hRA hrl hrc hrcl hrll hn hT hhd hpr hfr he hty
  go_enter Try.func14, Try.ntmps14
  go_wp2_with fail
  refine HRD.out.mono ?_
  rintro e w1 ⟨tv, rfl, hown, hb1⟩
  obtain ⟨At, mt, ct, rfl, q1, q2, q3, q4, q5⟩ := hown.sl
  have HTA := Lib.hid hown
  have HB1 := Lib.hid hb1
  clear hb1 hown q1 q2 q3 q4 q5
  go_upto_region 4 with (((with_reducible show wpList _ _ _ (⟨none, .store 41 (.tmp 4) (.tmp 20), _, _, _, _⟩ :: _) _ _); refine wpList_storeNewG (op := ⟨none, .store 41 (.tmp 4) (.tmp 20), _, _, _, _⟩) rfl 41 _ _ rfl (by rfl) (lkL L (.slice At mt ct)) (by rfl) (by rw [lkL_len H6.out]; rfl) (sizeLkL H6.out _) (lkL_one L _ rfl) ?_; intro w2 hl2 hb2 hz2; clear hz2; have HB2 := Lib.hid (HB1.out.trans (hb2.mono HB1.out.size)); have HTA2 := Lib.hid (HTA.out.below hb2); have HLTA := Lib.hid (fun g hg => (HTA.out.lt g hg).2); have HG := Lib.hid HB1.out.size; have HK2 := Lib.hid hl2; clear hl2 hb2; generalize w1.heap.size = G at HK2 HG HLTA ⊢))
  have HT13 := Lib.hid (fun W (hW : Below w2.heap.size w2 W) => Blk_10.cell (HK2.out.below HK2.out.lt hW) (HTY.out (.slice At mt ct)))
  have HT14 := Lib.hid (fun W (hW : Below w2.heap.size w2 W) => Blk_10.cell (HK2.out.below HK2.out.lt hW) (HAT.out (.slice At mt ct)))
  refine wp_region_held_drew (S := fun W => Below w2.heap.size w2 W) (by kernel_rfl) ((Below.refl _ _).drew) (fun hHeld => ?_)
  obtain ⟨X, hX⟩ : ∃ X, w2.drew = X := ⟨_, rfl⟩
  rw [hX] at hHeld ⊢
  clear hX
  refine tk 0 25 (.pointer (some ⟨G, 13, none⟩)) rfl hHeld ?_
  simp only [Act.put, sA, sZ, sS]
  refine tkY 1 26 (.int .i64 ty) rfl (Or.inl ⟨by rfl, fun W hW => by have hc := HT13.out W hW; go_simp⟩) hHeld ?_
  simp only [Act.put, sA, sZ, sS]
  refine tk 2 27 (.slice A len cap) rfl hHeld ?_
  simp only [Act.put, sA, sZ, sS]
  refine tk 3 28 (.pointer (some ⟨G, 14, none⟩)) rfl hHeld ?_
  simp only [Act.put, sA, sZ, sS]
  refine tkY 4 29 (.int .i64 (p : Int)) rfl (Or.inl ⟨by rfl, fun W hW => by have hc := HT14.out W hW; go_simp⟩) hHeld ?_
  simp only [Act.put, sA, sZ, sS]
  refine tkY 5 30 (.slice RA rl rc) rfl (Or.inl ⟨by rfl, fun W _ => by have hs := HCUT.out W; go_simp⟩) hHeld ?_
  simp only [Act.put, sA, sZ, sS]
  refine wpAnyH_ready (rs := [6]) (by kernel_rfl) (by simp) (AllReadyH.cons (o := ⟨some 31, _, _, _, _, _⟩) rfl (fun K hK => ?_) AllReadyH.nil)
  go_simp
  refine (HNT.out _ (HB2.out.trans (hHeld.mono HB2.out.size))).mono ?_
  rintro e w3 ⟨rfl, hb3⟩
  refine hK.out _ _ (hHeld.trans (hb3.mono hHeld.size)) (fun hHeld => ?_)
  clear hK K hb3
  refine tk 7 24 (.tuple #[.int .i64 (hh : Int), .int .i64 (T : Int), .int .i64 (pr : Int), .bool true, .bool true]) rfl hHeld ?_
  simp only [Act.put, sA, sZ, sS]
  refine tk 8 32 (.int .i64 (hh : Int)) rfl hHeld ?_
  simp only [Act.put, sA, sZ, sS]
  refine tk 9 33 (.int .i64 (T : Int)) rfl hHeld ?_
  simp only [Act.put, sA, sZ, sS]
  refine tk 10 34 (.int .i64 (pr : Int)) rfl hHeld ?_
  simp only [Act.put, sA, sZ, sS]
  refine tk 11 35 (.bool true) rfl hHeld ?_
  simp only [Act.put, sA, sZ, sS]
  refine tk 12 36 (.bool true) rfl hHeld ?_
  simp only [Act.put, sA, sZ, sS]
  refine tk 13 6 (.int .i64 (hh : Int)) rfl hHeld ?_
  simp only [Act.put, sA, sZ, sS]
  refine tk 14 7 (.int .i64 (T : Int)) rfl hHeld ?_
  simp only [Act.put, sA, sZ, sS]
  refine tk 15 8 (.int .i64 (pr : Int)) rfl hHeld ?_
  simp only [Act.put, sA, sZ, sS]
  refine tk 16 9 (.bool true) rfl hHeld ?_
  simp only [Act.put, sA, sZ, sS]
  refine tk 17 10 (.bool true) rfl hHeld ?_
  simp only [Act.put, sA, sZ, sS]
  refine wpAnyH_done (by kernel_rfl) ?_ _
  have HD3 := Lib.hid hHeld
  have HB3 := Lib.hid (HB2.out.trans (HD3.out.mono HB2.out.size))
  clear hHeld HT13 HT14
  go_wp2_with fail
  go_ret2
  exact ⟨rfl, HB3.out⟩

set_option maxHeartbeats 8000000 in
theorem runw_proto (A : Option Addr) (len cap : Nat) (xs : List UInt8) (hlen : len ≤ 90000) (hcap : len ≤ cap) (h0 : (rdOf xs).2 = 0) (he : (fN xs).e = 0) (hf1 : (fN xs).frag = false) (hx : ¬ ((fN xs).proto = 4 ∨ (fN xs).proto = 41)) (w : World) (hI : Rd w w.heap.size A len xs) :
    Calls Try.prog 14 #[.slice A len cap] w fun e w' => e = .returned (.tuple #[.slice none 0 0, .bool false]) ∧ Below w.heap.size w w' := by
  have hRD := rread_any_7 A len cap xs (by omega) w hI
  unfold ReadGave_7 at hRD
  have H6 := Lib.hid ((rdOf_six xs (rdOf xs).1 (rdOf xs).2 rfl).1)
  obtain ⟨L, hL⟩ : ∃ L, (rdOf xs).1 = L := ⟨_, rfl⟩
  obtain ⟨a1, a2, a3, a4, _⟩ := atK_ok h0
  obtain ⟨p, hp⟩ : ∃ p, atK xs = p := ⟨_, rfl⟩
  have hfN := fN_yes h0
  rw [hL, h0] at hRD
  rw [hL] at H6 a1
  rw [hL, hp] at hfN
  rw [hp] at a1 a2 a3 a4
  rw [hI.len] at a2
  have HRR := Lib.hid (hI.from (l := p) a2 cap hcap)
  have hcut := fun W => run_from8 A len cap p a2 W
  obtain ⟨RA, hRA⟩ : ∃ R, cutA A cap p = R := ⟨_, rfl⟩
  obtain ⟨rl, hrl⟩ : ∃ n, len - p = n := ⟨_, rfl⟩
  obtain ⟨rc, hrc⟩ : ∃ n, cap - p = n := ⟨_, rfl⟩
  have hrcl : rl ≤ rc := by omega
  have hrll : rl ≤ 90000 := by omega
  rw [hRA, hrl, hrc] at hcut
  rw [hRA, hrl] at HRR
  have HCUT := Lib.hid hcut
  have HTY := Lib.hid (fun tv => (lk_ty L H6.out tv).1)
  have HAT := Lib.hid (fun tv => show (lkL L tv)[14]? = some (.int .i64 (p : Int)) from a1 ▸ (lk_ty L H6.out tv).2)
  have HNT := Lib.hid (fun W (hB : Below w.heap.size w W) => rnet_any L.ty RA rl rc (xs.drop p) (by omega) hrcl W ((HRR.out.below hB).more hB.size))
  rw [← hfN] at HNT
  unfold ntV at HNT
  have HRD := Lib.hid hRD
  obtain ⟨n, hn⟩ : ∃ n, fN xs = n := ⟨_, rfl⟩
  rw [hn] at HNT
  obtain ⟨T, hT⟩ : ∃ T, n.total = T := ⟨_, rfl⟩
  obtain ⟨hh, hhd⟩ : ∃ T, n.head = T := ⟨_, rfl⟩
  obtain ⟨pr, hpr⟩ : ∃ T, n.proto = T := ⟨_, rfl⟩
  obtain ⟨fr, hfr⟩ : ∃ T, n.frag = T := ⟨_, rfl⟩
  rw [hT, hhd, hpr, hfr] at HNT
  rw [hn] at he hf1 hx
  rw [decide_eq_true he] at HNT
  rw [hfr] at hf1
  rw [hpr] at hx
  subst hf1
  have b4 : ((pr : Int) == 4) = false := beq_eq_false_iff_ne.2 (by omega)
  have b6 : ((pr : Int) == 41) = false := beq_eq_false_iff_ne.2 (by omega)
  have c4 : (pr == 4) = false := beq_eq_false_iff_ne.2 (by omega)
  have c6 : (pr == 41) = false := beq_eq_false_iff_ne.2 (by omega)
  have d4 : ((pr : Int) != 4) = true := by simp; omega
  have d6 : ((pr : Int) != 41) = true := by simp; omega
  have e4 : (pr != 4) = true := by simp; omega
  have e6 : (pr != 41) = true := by simp; omega
  obtain ⟨ty, hty⟩ : ∃ ty, L.ty = ty := ⟨_, rfl⟩
  rw [hty] at HNT HTY
  clear hRD h0 hI hL a1 a2 a3 a4 hp hfN hcut hRA hrl hrc hrcl hrll hn hT hhd hpr hfr he hx hty
  go_enter Try.func14, Try.ntmps14
  go_wp2_with fail
  refine HRD.out.mono ?_
  rintro e w1 ⟨tv, rfl, hown, hb1⟩
  obtain ⟨At, mt, ct, rfl, q1, q2, q3, q4, q5⟩ := hown.sl
  have HTA := Lib.hid hown
  have HB1 := Lib.hid hb1
  clear hb1 hown q1 q2 q3 q4 q5
  go_upto_region 4 with (((with_reducible show wpList _ _ _ (⟨none, .store 41 (.tmp 4) (.tmp 20), _, _, _, _⟩ :: _) _ _); refine wpList_storeNewG (op := ⟨none, .store 41 (.tmp 4) (.tmp 20), _, _, _, _⟩) rfl 41 _ _ rfl (by rfl) (lkL L (.slice At mt ct)) (by rfl) (by rw [lkL_len H6.out]; rfl) (sizeLkL H6.out _) (lkL_one L _ rfl) ?_; intro w2 hl2 hb2 hz2; clear hz2; have HB2 := Lib.hid (HB1.out.trans (hb2.mono HB1.out.size)); have HTA2 := Lib.hid (HTA.out.below hb2); have HLTA := Lib.hid (fun g hg => (HTA.out.lt g hg).2); have HG := Lib.hid HB1.out.size; have HK2 := Lib.hid hl2; clear hl2 hb2; generalize w1.heap.size = G at HK2 HG HLTA ⊢))
  have HT13 := Lib.hid (fun W (hW : Below w2.heap.size w2 W) => Blk_10.cell (HK2.out.below HK2.out.lt hW) (HTY.out (.slice At mt ct)))
  have HT14 := Lib.hid (fun W (hW : Below w2.heap.size w2 W) => Blk_10.cell (HK2.out.below HK2.out.lt hW) (HAT.out (.slice At mt ct)))
  refine wp_region_held_drew (S := fun W => Below w2.heap.size w2 W) (by kernel_rfl) ((Below.refl _ _).drew) (fun hHeld => ?_)
  obtain ⟨X, hX⟩ : ∃ X, w2.drew = X := ⟨_, rfl⟩
  rw [hX] at hHeld ⊢
  clear hX
  refine tk 0 25 (.pointer (some ⟨G, 13, none⟩)) rfl hHeld ?_
  simp only [Act.put, sA, sZ, sS]
  refine tkY 1 26 (.int .i64 ty) rfl (Or.inl ⟨by rfl, fun W hW => by have hc := HT13.out W hW; go_simp⟩) hHeld ?_
  simp only [Act.put, sA, sZ, sS]
  refine tk 2 27 (.slice A len cap) rfl hHeld ?_
  simp only [Act.put, sA, sZ, sS]
  refine tk 3 28 (.pointer (some ⟨G, 14, none⟩)) rfl hHeld ?_
  simp only [Act.put, sA, sZ, sS]
  refine tkY 4 29 (.int .i64 (p : Int)) rfl (Or.inl ⟨by rfl, fun W hW => by have hc := HT14.out W hW; go_simp⟩) hHeld ?_
  simp only [Act.put, sA, sZ, sS]
  refine tkY 5 30 (.slice RA rl rc) rfl (Or.inl ⟨by rfl, fun W _ => by have hs := HCUT.out W; go_simp⟩) hHeld ?_
  simp only [Act.put, sA, sZ, sS]
  refine wpAnyH_ready (rs := [6]) (by kernel_rfl) (by simp) (AllReadyH.cons (o := ⟨some 31, _, _, _, _, _⟩) rfl (fun K hK => ?_) AllReadyH.nil)
  go_simp
  refine (HNT.out _ (HB2.out.trans (hHeld.mono HB2.out.size))).mono ?_
  rintro e w3 ⟨rfl, hb3⟩
  refine hK.out _ _ (hHeld.trans (hb3.mono hHeld.size)) (fun hHeld => ?_)
  clear hK K hb3
  refine tk 7 24 (.tuple #[.int .i64 (hh : Int), .int .i64 (T : Int), .int .i64 (pr : Int), .bool false, .bool true]) rfl hHeld ?_
  simp only [Act.put, sA, sZ, sS]
  refine tk 8 32 (.int .i64 (hh : Int)) rfl hHeld ?_
  simp only [Act.put, sA, sZ, sS]
  refine tk 9 33 (.int .i64 (T : Int)) rfl hHeld ?_
  simp only [Act.put, sA, sZ, sS]
  refine tk 10 34 (.int .i64 (pr : Int)) rfl hHeld ?_
  simp only [Act.put, sA, sZ, sS]
  refine tk 11 35 (.bool false) rfl hHeld ?_
  simp only [Act.put, sA, sZ, sS]
  refine tk 12 36 (.bool true) rfl hHeld ?_
  simp only [Act.put, sA, sZ, sS]
  refine tk 13 6 (.int .i64 (hh : Int)) rfl hHeld ?_
  simp only [Act.put, sA, sZ, sS]
  refine tk 14 7 (.int .i64 (T : Int)) rfl hHeld ?_
  simp only [Act.put, sA, sZ, sS]
  refine tk 15 8 (.int .i64 (pr : Int)) rfl hHeld ?_
  simp only [Act.put, sA, sZ, sS]
  refine tk 16 9 (.bool false) rfl hHeld ?_
  simp only [Act.put, sA, sZ, sS]
  refine tk 17 10 (.bool true) rfl hHeld ?_
  simp only [Act.put, sA, sZ, sS]
  refine wpAnyH_done (by kernel_rfl) ?_ _
  have HD3 := Lib.hid hHeld
  have HB3 := Lib.hid (HB2.out.trans (HD3.out.mono HB2.out.size))
  clear hHeld HT13 HT14
  go_wp2_with fail
  go_ret2
  exact ⟨rfl, HB3.out⟩

set_option maxHeartbeats 16000000 in
theorem runw_yes4 (A : Option Addr) (len cap : Nat) (xs : List UInt8) (hlen : len ≤ 90000) (hcap : len ≤ cap) (he : (fN xs).e = 0) (hf1 : (fN xs).frag = false) (hp4 : (fN xs).proto = 4) (w : World) (hI : Rd w w.heap.size A len xs) :
    Calls Try.prog 14 #[.slice A len cap] w (RuGave w xs) := by
  have hF := frame_of he
  have h0 : (rdOf xs).2 = 0 := by rw [hF.r]
  have hrt := right_ty hF.right (ty := 2048) (by simp)
  have htot : atK xs + (fN xs).total ≤ len := by have := hF.h2; rw [hI.len] at this; exact this
  have hht := hF.h1
  have hin : inN xs = ntK 2048 (inL xs) := by unfold inN; rw [hp4]; rfl
  have hil : inL xs = ((xs.drop (atK xs)).drop (fN xs).head).take ((fN xs).total - (fN xs).head) := rfl
  have hub : unB xs = decide ((inN xs).e = 0) := by unfold unB; rw [he, hf1]; rfl
  have hul : unL xs = lkB { (rdOf xs).1 with ty := 2048 } ++ (inL xs).take (inN xs).total := by unfold unL; rw [hp4]; rfl
  have hit := (ntK_fits 2048 (inL xs)).h2
  rw [← hin] at hit
  unfold RuGave
  rw [hub]
  clear hub
  have hRD := rread_any_7 A len cap xs (by omega) w hI
  unfold ReadGave_7 at hRD
  have H6 := Lib.hid ((rdOf_six xs (rdOf xs).1 (rdOf xs).2 rfl).1)
  obtain ⟨L, hL⟩ : ∃ L, (rdOf xs).1 = L := ⟨_, rfl⟩
  have hul : unL xs = lkB { L with ty := 2048 } ++ (inL xs).take (inN xs).total := by rw [← hL]; exact hul
  rw [hul]
  clear hul
  obtain ⟨a1, a2, a3, a4, _⟩ := atK_ok h0
  obtain ⟨p, hp⟩ : ∃ p, atK xs = p := ⟨_, rfl⟩
  have hfN := fN_yes h0
  rw [hL, h0] at hRD
  rw [hL] at H6 a1
  rw [hL, hp] at hfN
  rw [hp] at a1 a2 a3 a4
  rw [hI.len] at a2
  have HRR := Lib.hid (hI.from (l := p) a2 cap hcap)
  have hcut := fun W => run_from8 A len cap p a2 W
  obtain ⟨RA, hRA⟩ : ∃ R, cutA A cap p = R := ⟨_, rfl⟩
  obtain ⟨rl, hrl⟩ : ∃ n, len - p = n := ⟨_, rfl⟩
  obtain ⟨rc, hrc⟩ : ∃ n, cap - p = n := ⟨_, rfl⟩
  have hrcl : rl ≤ rc := by omega
  have hrll : rl ≤ 90000 := by omega
  rw [hRA, hrl, hrc] at hcut
  rw [hRA, hrl] at HRR
  have HCUT := Lib.hid hcut
  have HTY := Lib.hid (fun tv => (lk_ty L H6.out tv).1)
  have HAT := Lib.hid (fun tv => show (lkL L tv)[14]? = some (.int .i64 (p : Int)) from a1 ▸ (lk_ty L H6.out tv).2)
  have HNT := Lib.hid (fun W (hB : Below w.heap.size w W) => rnet_any L.ty RA rl rc (xs.drop p) (by omega) hrcl W ((HRR.out.below hB).more hB.size))
  rw [← hfN] at HNT
  unfold ntV at HNT
  have HRD := Lib.hid hRD
  obtain ⟨n, hn⟩ : ∃ n, fN xs = n := ⟨_, rfl⟩
  rw [hn] at HNT
  obtain ⟨T, hT⟩ : ∃ T, n.total = T := ⟨_, rfl⟩
  obtain ⟨hh, hhd⟩ : ∃ T, n.head = T := ⟨_, rfl⟩
  obtain ⟨pr, hpr⟩ : ∃ T, n.proto = T := ⟨_, rfl⟩
  obtain ⟨fr, hfr⟩ : ∃ T, n.frag = T := ⟨_, rfl⟩
  rw [hT, hhd, hpr, hfr] at HNT
  rw [hn] at he hf1 hp4 htot hht hil
  rw [hT] at htot hht hil
  rw [hhd] at hht hil
  rw [hp] at htot hil
  rw [hpr] at hp4
  rw [hfr] at hf1
  subst hp4 hf1
  rw [decide_eq_true he] at HNT
  rw [hL] at hrt
  obtain ⟨ty, hty⟩ : ∃ ty, L.ty = ty := ⟨_, rfl⟩
  rw [hty] at HNT HTY
  obtain ⟨M, hM⟩ : ∃ M, T - hh = M := ⟨_, rfl⟩
  rw [hM] at hil
  have hsp : ∀ q : Nat, (xs.drop p).drop q = xs.drop (p + q) := fun q => by rw [List.drop_drop]
  rw [hsp hh] at hil
  have hwp1 : IntKind.i64.wrap ((p : Int) + (T : Int)) = (p : Int) + (T : Int) := by rw [IntKind.wrap_i64]; omega
  have hwp2 : IntKind.i64.wrap ((p : Int) + (hh : Int)) = (p : Int) + (hh : Int) := by rw [IntKind.wrap_i64]; omega
  have hct9 := fun W => run_cut8 A len cap (p + hh) M ((p : Int) + (hh : Int)) ((p : Int) + (T : Int)) (by omega) (by omega) (by omega) W
  have HIL := Lib.hid (hI.cut (l := p + hh) (n := M) (by omega) cap hcap)
  rw [← hil] at HIL
  obtain ⟨IA, hIA⟩ : ∃ R, cutA A cap (p + hh) = R := ⟨_, rfl⟩
  obtain ⟨ic, hic⟩ : ∃ R, cap - (p + hh) = R := ⟨_, rfl⟩
  rw [hIA, hic] at hct9
  rw [hIA] at HIL
  have hMc : M ≤ ic := by omega
  have HMB := Lib.hid (show M ≤ 90000 by omega)
  have HCT9 := Lib.hid hct9
  have HWP1 := Lib.hid hwp1
  have HWP2 := Lib.hid hwp2
  obtain ⟨ib, hib⟩ : ∃ l, inL xs = l := ⟨_, rfl⟩
  obtain ⟨q, hq⟩ : ∃ q, inN xs = q := ⟨_, rfl⟩
  rw [hib] at HIL hin hit ⊢
  rw [hq] at hin hit ⊢
  rw [HIL.out.len] at hit
  have HIN := Lib.hid (fun W (hB : Below w.heap.size w W) => rnet_any 2048 IA M ic ib (by omega) hMc W ((HIL.out.below hB).more hB.size))
  rw [← hin] at HIN
  unfold ntV at HIN
  obtain ⟨U, hU⟩ : ∃ U, q.total = U := ⟨_, rfl⟩
  obtain ⟨qh, hqh⟩ : ∃ U, q.head = U := ⟨_, rfl⟩
  obtain ⟨qp, hqp⟩ : ∃ U, q.proto = U := ⟨_, rfl⟩
  obtain ⟨qf, hqf⟩ : ∃ U, q.frag = U := ⟨_, rfl⟩
  obtain ⟨bq, hbq⟩ : ∃ b, decide (q.e = 0) = b := ⟨_, rfl⟩
  rw [hU, hqh, hqp, hqf, hbq] at HIN
  rw [hU] at hit ⊢
  rw [hbq]
  have HIT := Lib.hid hit
  have HUP := Lib.hid (fun W => run_upto8 IA M ic U (U : Int) rfl (by omega) W)
  have HLK := Lib.hid (fun W A n cap hT => rput_any7 { L with ty := 2048 } (six_ty H6.out _) (A := A) (n := n) cap (w := W) hT hrt)
  have HLT := Lib.hid (show (lkB { L with ty := 2048 }).length ≤ 22 by
    have h2 : L.ts.length ≤ 2 := (right_parts hrt).1
    have e : (lkB { L with ty := 2048 }).length = 14 + 4 * L.ts.length := lkB_len (six_ty H6.out _)
    rw [e]
    omega)
  have HST := Lib.hid (fun tv => lk_set L H6.out tv 2048)
  have HST2 := Lib.hid (fun tv => lk_set { L with ty := 2048 } (six_ty H6.out _) tv 34525)
  have HTY2 := Lib.hid (fun tv => (lk_ty { L with ty := 2048 } (six_ty H6.out _) tv).1)
  obtain ⟨lb, hlb⟩ : ∃ l, lkB { L with ty := 2048 } = l := ⟨_, rfl⟩
  rw [hlb] at HLK HLT ⊢
  clear hRD h0 hI hL hF a1 a2 a3 a4 hp hfN hcut hRA hrl hrc hrcl hrll hn hT hhd hpr hfr he htot hht hil hin hit hrt hM hsp hwp1 hwp2 hct9 hIA hic hMc hib hq hU hqh hqp hqf hbq hlb hty
  go_enter Try.func14, Try.ntmps14
  go_wp2_with fail
  refine HRD.out.mono ?_
  rintro e w1 ⟨tv, rfl, hown, hb1⟩
  obtain ⟨At, mt, ct, rfl, q1, q2, q3, q4, q5⟩ := hown.sl
  have HTA := Lib.hid hown
  have HB1 := Lib.hid hb1
  clear hb1 hown q1 q2 q3 q4 q5
  go_upto_region 4 with (((with_reducible show wpList _ _ _ (⟨none, .store 41 (.tmp 4) (.tmp 20), _, _, _, _⟩ :: _) _ _); refine wpList_storeNewG (op := ⟨none, .store 41 (.tmp 4) (.tmp 20), _, _, _, _⟩) rfl 41 _ _ rfl (by rfl) (lkL L (.slice At mt ct)) (by rfl) (by rw [lkL_len H6.out]; rfl) (sizeLkL H6.out _) (lkL_one L _ rfl) ?_; intro w2 hl2 hb2 hz2; clear hz2; have HB2 := Lib.hid (HB1.out.trans (hb2.mono HB1.out.size)); have HTA2 := Lib.hid (HTA.out.below hb2); have HLTA := Lib.hid (fun g hg => (HTA.out.lt g hg).2); have HG := Lib.hid HB1.out.size; have HK2 := Lib.hid hl2; clear hl2 hb2; generalize w1.heap.size = G at HK2 HG HLTA ⊢))
  have HT13 := Lib.hid (fun W (hW : Below w2.heap.size w2 W) => Blk_10.cell (HK2.out.below HK2.out.lt hW) (HTY.out (.slice At mt ct)))
  have HT14 := Lib.hid (fun W (hW : Below w2.heap.size w2 W) => Blk_10.cell (HK2.out.below HK2.out.lt hW) (HAT.out (.slice At mt ct)))
  refine wp_region_held_drew (S := fun W => Below w2.heap.size w2 W) (by kernel_rfl) ((Below.refl _ _).drew) (fun hHeld => ?_)
  obtain ⟨X, hX⟩ : ∃ X, w2.drew = X := ⟨_, rfl⟩
  rw [hX] at hHeld ⊢
  clear hX
  refine tk 0 25 (.pointer (some ⟨G, 13, none⟩)) rfl hHeld ?_
  simp only [Act.put, sA, sZ, sS]
  refine tkY 1 26 (.int .i64 ty) rfl (Or.inl ⟨by rfl, fun W hW => by have hc := HT13.out W hW; go_simp⟩) hHeld ?_
  simp only [Act.put, sA, sZ, sS]
  refine tk 2 27 (.slice A len cap) rfl hHeld ?_
  simp only [Act.put, sA, sZ, sS]
  refine tk 3 28 (.pointer (some ⟨G, 14, none⟩)) rfl hHeld ?_
  simp only [Act.put, sA, sZ, sS]
  refine tkY 4 29 (.int .i64 (p : Int)) rfl (Or.inl ⟨by rfl, fun W hW => by have hc := HT14.out W hW; go_simp⟩) hHeld ?_
  simp only [Act.put, sA, sZ, sS]
  refine tkY 5 30 (.slice RA rl rc) rfl (Or.inl ⟨by rfl, fun W _ => by have hs := HCUT.out W; go_simp⟩) hHeld ?_
  simp only [Act.put, sA, sZ, sS]
  refine wpAnyH_ready (rs := [6]) (by kernel_rfl) (by simp) (AllReadyH.cons (o := ⟨some 31, _, _, _, _, _⟩) rfl (fun K hK => ?_) AllReadyH.nil)
  go_simp
  refine (HNT.out _ (HB2.out.trans (hHeld.mono HB2.out.size))).mono ?_
  rintro e w3 ⟨rfl, hb3⟩
  refine hK.out _ _ (hHeld.trans (hb3.mono hHeld.size)) (fun hHeld => ?_)
  clear hK K hb3
  refine tk 7 24 (.tuple #[.int .i64 (hh : Int), .int .i64 (T : Int), .int .i64 (4 : Nat), .bool false, .bool true]) rfl hHeld ?_
  simp only [Act.put, sA, sZ, sS]
  refine tk 8 32 (.int .i64 (hh : Int)) rfl hHeld ?_
  simp only [Act.put, sA, sZ, sS]
  refine tk 9 33 (.int .i64 (T : Int)) rfl hHeld ?_
  simp only [Act.put, sA, sZ, sS]
  refine tk 10 34 (.int .i64 (4 : Nat)) rfl hHeld ?_
  simp only [Act.put, sA, sZ, sS]
  refine tk 11 35 (.bool false) rfl hHeld ?_
  simp only [Act.put, sA, sZ, sS]
  refine tk 12 36 (.bool true) rfl hHeld ?_
  simp only [Act.put, sA, sZ, sS]
  refine tk 13 6 (.int .i64 (hh : Int)) rfl hHeld ?_
  simp only [Act.put, sA, sZ, sS]
  refine tk 14 7 (.int .i64 (T : Int)) rfl hHeld ?_
  simp only [Act.put, sA, sZ, sS]
  refine tk 15 8 (.int .i64 (4 : Nat)) rfl hHeld ?_
  simp only [Act.put, sA, sZ, sS]
  refine tk 16 9 (.bool false) rfl hHeld ?_
  simp only [Act.put, sA, sZ, sS]
  refine tk 17 10 (.bool true) rfl hHeld ?_
  simp only [Act.put, sA, sZ, sS]
  refine wpAnyH_done (by kernel_rfl) ?_ _
  have HD3 := Lib.hid hHeld
  have HB3 := Lib.hid (HB2.out.trans (HD3.out.mono HB2.out.size))
  clear hHeld HT13 HT14
  have HK3 := Lib.hid (HK2.out.below HK2.out.lt HD3.out)
  have HTA3 := Lib.hid (HTA2.out.below HD3.out)
  have at3 := Blk_10.cell HK3.out (HAT.out (.slice At mt ct))
  have hct9 := HCT9.out
  have hwp1 := HWP1.out
  have hwp2 := HWP2.out
  go_wp2_with (((with_reducible show wpList _ _ _ (⟨none, .store 3 (.tmp 60) _, _, _, _, _⟩ :: _) _ _); refine wpList_storeI_10 rfl (.tmp 60) _ rfl G 13 (by rfl) 2048 (by rfl) 41 _ HK3.out ty (HTY.out _) ?_; intro w4 hq4 hn4 hb4; rw [HST.out] at hq4; have HK4 := Lib.hid hq4; have HB4 := Lib.hid (HB3.out.trans (hb4.mono HG.out)); have HTA4 := Lib.hid (HTA3.out.kept (gb_of hn4 hb4) (own_ne HLTA.out)); have ty4 := Blk_10.cell HK4.out (HTY2.out (.slice At mt ct)); clear hq4 hn4 hb4))
  clear at3 hct9 hwp1 hwp2 ty4
  refine (HIN.out _ HB4.out).mono ?_
  rintro e w6 ⟨rfl, hb6⟩
  have HB6 := Lib.hid (HB4.out.trans (hb6.mono HB4.out.size))
  have HK6 := Lib.hid (HK4.out.below HK4.out.lt hb6)
  have HTA6 := Lib.hid (HTA4.out.below hb6)
  clear hb6
  cases bq with
  | false =>
    go_wp2_with fail
    go_ret2
    first
      | exact ⟨fun h => (by cases h), fun _ => rfl, HB6.out⟩
      | exact ⟨rfl, HB6.out⟩
  | true =>
    go_upto_region 14 with (fail)
    have HTG := Lib.hid (fun (W : World) (hW : Below w6.heap.size w6 W) => show TagsAt W W.heap.size At mt L.ts from tags_of (HTA6.out.below hW))
    have HPRW := Lib.hid (fun (W : World) (hW : Below w6.heap.size w6 W) => show Rd W w.heap.size IA U (ib.take U) from (HIL.out.below (HB6.out.trans (hW.mono HB6.out.size))).take HIT.out)
    refine wp_region_held_drew (S := fun W => Below w6.heap.size w6 W) (by kernel_rfl) ((Below.refl _ _).drew) (fun hHeld => ?_)
    obtain ⟨X, hX⟩ : ∃ X, w6.drew = X := ⟨_, rfl⟩
    rw [hX] at hHeld ⊢
    clear hX
    refine tkY 0 76 (lkC { L with ty := 2048 } (.slice At mt ct)) rfl (yieldsIf_load_mid (by rfl) 41 _ rfl G 0 rfl (lkL { L with ty := 2048 } (.slice At mt ct)) _ (fun W hW => Blk_10.range (HK6.out.below HK6.out.lt hW)) Try.underlying41 rfl (sizeLkL (six_ty H6.out _) _)) hHeld ?_
    simp only [Act.put, sA, sZ, sS]
    refine tk 2 78 (.slice IA M ic) rfl hHeld ?_
    simp only [Act.put, sA, sZ, sS]
    refine tk 3 79 (.int .i64 (U : Int)) rfl hHeld ?_
    simp only [Act.put, sA, sZ, sS]
    refine tkY 4 80 (.slice IA U ic) rfl (Or.inl ⟨by rfl, fun W _ => by have hs := HUP.out W; go_simp⟩) hHeld ?_
    simp only [Act.put, sA, sZ, sS]
    refine wpAnyH_ready (rs := [1]) (by kernel_rfl) (by simp) (AllReadyH.cons (o := ⟨some 77, _, _, _, _, _⟩) rfl (fun K hK => ?_) AllReadyH.nil)
    go_simp
    refine (HLK.out _ At mt ct (HTG.out _ hHeld)).mono ?_
    rintro e w7 ⟨v7, rfl, ho7, hb7⟩
    have HO7 := Lib.hid (ho7.base_le hHeld.size)
    have HB7 := Lib.hid (hHeld.trans (hb7.mono hHeld.size))
    refine hK.out _ _ (HB7.out) (fun hHeld => ?_)
    clear hK K hb7 ho7
    refine wpAnyH_ready (rs := [5]) (by kernel_rfl) (by simp) (AllReadyH.cons (o := ⟨some 81, _, _, _, _, _⟩) rfl (fun K hK => ?_) AllReadyH.nil)
    refine step_append8 rfl (.tmp 77) (.tmp 80) rfl w6.heap.size _ lb (by rfl) HO7.out _ IA U ic (ib.take U) (by rfl) (HPRW.out _ HB7.out) (by have := HLT.out; have := HIT.out; have := HMB.out; omega) HB7.out.size ?_
    intro v8 w8 ho8 hg8
    have HO8 := Lib.hid ho8
    have HB8 := Lib.hid (HB7.out.grown hg8 HB7.out.size HO7.out.lt)
    refine hK.out _ _ (HB8.out) (fun hHeld => ?_)
    clear hK K ho8 hg8
    refine tk 6 2 v8 rfl hHeld ?_
    simp only [Act.put, sA, sZ, sS]
    refine tk 7 3 (.bool true) rfl hHeld ?_
    simp only [Act.put, sA, sZ, sS]
    refine wpAnyH_done (by kernel_rfl) ?_ _
    go_wp2_with fail
    go_ret2
    have HF8 := HB6.out.trans (HB8.out.mono HB6.out.size)
    have HO8' := HO8.out.base_le HB6.out.size
    first
      | exact ⟨fun _ => ⟨_, rfl, HO8'⟩, fun h => (by cases h), HF8⟩
      | exact ⟨⟨_, rfl, HO8'⟩, HF8⟩

set_option maxHeartbeats 16000000 in
theorem runw_yes41 (A : Option Addr) (len cap : Nat) (xs : List UInt8) (hlen : len ≤ 90000) (hcap : len ≤ cap) (he : (fN xs).e = 0) (hf1 : (fN xs).frag = false) (hp4 : (fN xs).proto = 41) (w : World) (hI : Rd w w.heap.size A len xs) :
    Calls Try.prog 14 #[.slice A len cap] w (RuGave w xs) := by
  have hF := frame_of he
  have h0 : (rdOf xs).2 = 0 := by rw [hF.r]
  have hrt := right_ty hF.right (ty := 34525) (by simp)
  have htot : atK xs + (fN xs).total ≤ len := by have := hF.h2; rw [hI.len] at this; exact this
  have hht := hF.h1
  have hin : inN xs = ntK 34525 (inL xs) := by unfold inN; rw [hp4]; rfl
  have hil : inL xs = ((xs.drop (atK xs)).drop (fN xs).head).take ((fN xs).total - (fN xs).head) := rfl
  have hub : unB xs = decide ((inN xs).e = 0) := by unfold unB; rw [he, hf1]; rfl
  have hul : unL xs = lkB { (rdOf xs).1 with ty := 34525 } ++ (inL xs).take (inN xs).total := by unfold unL; rw [hp4]; rfl
  have hit := (ntK_fits 34525 (inL xs)).h2
  rw [← hin] at hit
  unfold RuGave
  rw [hub]
  clear hub
  have hRD := rread_any_7 A len cap xs (by omega) w hI
  unfold ReadGave_7 at hRD
  have H6 := Lib.hid ((rdOf_six xs (rdOf xs).1 (rdOf xs).2 rfl).1)
  obtain ⟨L, hL⟩ : ∃ L, (rdOf xs).1 = L := ⟨_, rfl⟩
  have hul : unL xs = lkB { L with ty := 34525 } ++ (inL xs).take (inN xs).total := by rw [← hL]; exact hul
  rw [hul]
  clear hul
  obtain ⟨a1, a2, a3, a4, _⟩ := atK_ok h0
  obtain ⟨p, hp⟩ : ∃ p, atK xs = p := ⟨_, rfl⟩
  have hfN := fN_yes h0
  rw [hL, h0] at hRD
  rw [hL] at H6 a1
  rw [hL, hp] at hfN
  rw [hp] at a1 a2 a3 a4
  rw [hI.len] at a2
  have HRR := Lib.hid (hI.from (l := p) a2 cap hcap)
  have hcut := fun W => run_from8 A len cap p a2 W
  obtain ⟨RA, hRA⟩ : ∃ R, cutA A cap p = R := ⟨_, rfl⟩
  obtain ⟨rl, hrl⟩ : ∃ n, len - p = n := ⟨_, rfl⟩
  obtain ⟨rc, hrc⟩ : ∃ n, cap - p = n := ⟨_, rfl⟩
  have hrcl : rl ≤ rc := by omega
  have hrll : rl ≤ 90000 := by omega
  rw [hRA, hrl, hrc] at hcut
  rw [hRA, hrl] at HRR
  have HCUT := Lib.hid hcut
  have HTY := Lib.hid (fun tv => (lk_ty L H6.out tv).1)
  have HAT := Lib.hid (fun tv => show (lkL L tv)[14]? = some (.int .i64 (p : Int)) from a1 ▸ (lk_ty L H6.out tv).2)
  have HNT := Lib.hid (fun W (hB : Below w.heap.size w W) => rnet_any L.ty RA rl rc (xs.drop p) (by omega) hrcl W ((HRR.out.below hB).more hB.size))
  rw [← hfN] at HNT
  unfold ntV at HNT
  have HRD := Lib.hid hRD
  obtain ⟨n, hn⟩ : ∃ n, fN xs = n := ⟨_, rfl⟩
  rw [hn] at HNT
  obtain ⟨T, hT⟩ : ∃ T, n.total = T := ⟨_, rfl⟩
  obtain ⟨hh, hhd⟩ : ∃ T, n.head = T := ⟨_, rfl⟩
  obtain ⟨pr, hpr⟩ : ∃ T, n.proto = T := ⟨_, rfl⟩
  obtain ⟨fr, hfr⟩ : ∃ T, n.frag = T := ⟨_, rfl⟩
  rw [hT, hhd, hpr, hfr] at HNT
  rw [hn] at he hf1 hp4 htot hht hil
  rw [hT] at htot hht hil
  rw [hhd] at hht hil
  rw [hp] at htot hil
  rw [hpr] at hp4
  rw [hfr] at hf1
  subst hp4 hf1
  rw [decide_eq_true he] at HNT
  rw [hL] at hrt
  obtain ⟨ty, hty⟩ : ∃ ty, L.ty = ty := ⟨_, rfl⟩
  rw [hty] at HNT HTY
  obtain ⟨M, hM⟩ : ∃ M, T - hh = M := ⟨_, rfl⟩
  rw [hM] at hil
  have hsp : ∀ q : Nat, (xs.drop p).drop q = xs.drop (p + q) := fun q => by rw [List.drop_drop]
  rw [hsp hh] at hil
  have hwp1 : IntKind.i64.wrap ((p : Int) + (T : Int)) = (p : Int) + (T : Int) := by rw [IntKind.wrap_i64]; omega
  have hwp2 : IntKind.i64.wrap ((p : Int) + (hh : Int)) = (p : Int) + (hh : Int) := by rw [IntKind.wrap_i64]; omega
  have hct9 := fun W => run_cut8 A len cap (p + hh) M ((p : Int) + (hh : Int)) ((p : Int) + (T : Int)) (by omega) (by omega) (by omega) W
  have HIL := Lib.hid (hI.cut (l := p + hh) (n := M) (by omega) cap hcap)
  rw [← hil] at HIL
  obtain ⟨IA, hIA⟩ : ∃ R, cutA A cap (p + hh) = R := ⟨_, rfl⟩
  obtain ⟨ic, hic⟩ : ∃ R, cap - (p + hh) = R := ⟨_, rfl⟩
  rw [hIA, hic] at hct9
  rw [hIA] at HIL
  have hMc : M ≤ ic := by omega
  have HMB := Lib.hid (show M ≤ 90000 by omega)
  have HCT9 := Lib.hid hct9
  have HWP1 := Lib.hid hwp1
  have HWP2 := Lib.hid hwp2
  obtain ⟨ib, hib⟩ : ∃ l, inL xs = l := ⟨_, rfl⟩
  obtain ⟨q, hq⟩ : ∃ q, inN xs = q := ⟨_, rfl⟩
  rw [hib] at HIL hin hit ⊢
  rw [hq] at hin hit ⊢
  rw [HIL.out.len] at hit
  have HIN := Lib.hid (fun W (hB : Below w.heap.size w W) => rnet_any 34525 IA M ic ib (by omega) hMc W ((HIL.out.below hB).more hB.size))
  rw [← hin] at HIN
  unfold ntV at HIN
  obtain ⟨U, hU⟩ : ∃ U, q.total = U := ⟨_, rfl⟩
  obtain ⟨qh, hqh⟩ : ∃ U, q.head = U := ⟨_, rfl⟩
  obtain ⟨qp, hqp⟩ : ∃ U, q.proto = U := ⟨_, rfl⟩
  obtain ⟨qf, hqf⟩ : ∃ U, q.frag = U := ⟨_, rfl⟩
  obtain ⟨bq, hbq⟩ : ∃ b, decide (q.e = 0) = b := ⟨_, rfl⟩
  rw [hU, hqh, hqp, hqf, hbq] at HIN
  rw [hU] at hit ⊢
  rw [hbq]
  have HIT := Lib.hid hit
  have HUP := Lib.hid (fun W => run_upto8 IA M ic U (U : Int) rfl (by omega) W)
  have HLK := Lib.hid (fun W A n cap hT => rput_any7 { L with ty := 34525 } (six_ty H6.out _) (A := A) (n := n) cap (w := W) hT hrt)
  have HLT := Lib.hid (show (lkB { L with ty := 34525 }).length ≤ 22 by
    have h2 : L.ts.length ≤ 2 := (right_parts hrt).1
    have e : (lkB { L with ty := 34525 }).length = 14 + 4 * L.ts.length := lkB_len (six_ty H6.out _)
    rw [e]
    omega)
  have HST := Lib.hid (fun tv => lk_set L H6.out tv 2048)
  have HST2 := Lib.hid (fun tv => lk_set { L with ty := 2048 } (six_ty H6.out _) tv 34525)
  have HTY2 := Lib.hid (fun tv => (lk_ty { L with ty := 34525 } (six_ty H6.out _) tv).1)
  obtain ⟨lb, hlb⟩ : ∃ l, lkB { L with ty := 34525 } = l := ⟨_, rfl⟩
  rw [hlb] at HLK HLT ⊢
  clear hRD h0 hI hL hF a1 a2 a3 a4 hp hfN hcut hRA hrl hrc hrcl hrll hn hT hhd hpr hfr he htot hht hil hin hit hrt hM hsp hwp1 hwp2 hct9 hIA hic hMc hib hq hU hqh hqp hqf hbq hlb hty
  go_enter Try.func14, Try.ntmps14
  go_wp2_with fail
  refine HRD.out.mono ?_
  rintro e w1 ⟨tv, rfl, hown, hb1⟩
  obtain ⟨At, mt, ct, rfl, q1, q2, q3, q4, q5⟩ := hown.sl
  have HTA := Lib.hid hown
  have HB1 := Lib.hid hb1
  clear hb1 hown q1 q2 q3 q4 q5
  go_upto_region 4 with (((with_reducible show wpList _ _ _ (⟨none, .store 41 (.tmp 4) (.tmp 20), _, _, _, _⟩ :: _) _ _); refine wpList_storeNewG (op := ⟨none, .store 41 (.tmp 4) (.tmp 20), _, _, _, _⟩) rfl 41 _ _ rfl (by rfl) (lkL L (.slice At mt ct)) (by rfl) (by rw [lkL_len H6.out]; rfl) (sizeLkL H6.out _) (lkL_one L _ rfl) ?_; intro w2 hl2 hb2 hz2; clear hz2; have HB2 := Lib.hid (HB1.out.trans (hb2.mono HB1.out.size)); have HTA2 := Lib.hid (HTA.out.below hb2); have HLTA := Lib.hid (fun g hg => (HTA.out.lt g hg).2); have HG := Lib.hid HB1.out.size; have HK2 := Lib.hid hl2; clear hl2 hb2; generalize w1.heap.size = G at HK2 HG HLTA ⊢))
  have HT13 := Lib.hid (fun W (hW : Below w2.heap.size w2 W) => Blk_10.cell (HK2.out.below HK2.out.lt hW) (HTY.out (.slice At mt ct)))
  have HT14 := Lib.hid (fun W (hW : Below w2.heap.size w2 W) => Blk_10.cell (HK2.out.below HK2.out.lt hW) (HAT.out (.slice At mt ct)))
  refine wp_region_held_drew (S := fun W => Below w2.heap.size w2 W) (by kernel_rfl) ((Below.refl _ _).drew) (fun hHeld => ?_)
  obtain ⟨X, hX⟩ : ∃ X, w2.drew = X := ⟨_, rfl⟩
  rw [hX] at hHeld ⊢
  clear hX
  refine tk 0 25 (.pointer (some ⟨G, 13, none⟩)) rfl hHeld ?_
  simp only [Act.put, sA, sZ, sS]
  refine tkY 1 26 (.int .i64 ty) rfl (Or.inl ⟨by rfl, fun W hW => by have hc := HT13.out W hW; go_simp⟩) hHeld ?_
  simp only [Act.put, sA, sZ, sS]
  refine tk 2 27 (.slice A len cap) rfl hHeld ?_
  simp only [Act.put, sA, sZ, sS]
  refine tk 3 28 (.pointer (some ⟨G, 14, none⟩)) rfl hHeld ?_
  simp only [Act.put, sA, sZ, sS]
  refine tkY 4 29 (.int .i64 (p : Int)) rfl (Or.inl ⟨by rfl, fun W hW => by have hc := HT14.out W hW; go_simp⟩) hHeld ?_
  simp only [Act.put, sA, sZ, sS]
  refine tkY 5 30 (.slice RA rl rc) rfl (Or.inl ⟨by rfl, fun W _ => by have hs := HCUT.out W; go_simp⟩) hHeld ?_
  simp only [Act.put, sA, sZ, sS]
  refine wpAnyH_ready (rs := [6]) (by kernel_rfl) (by simp) (AllReadyH.cons (o := ⟨some 31, _, _, _, _, _⟩) rfl (fun K hK => ?_) AllReadyH.nil)
  go_simp
  refine (HNT.out _ (HB2.out.trans (hHeld.mono HB2.out.size))).mono ?_
  rintro e w3 ⟨rfl, hb3⟩
  refine hK.out _ _ (hHeld.trans (hb3.mono hHeld.size)) (fun hHeld => ?_)
  clear hK K hb3
  refine tk 7 24 (.tuple #[.int .i64 (hh : Int), .int .i64 (T : Int), .int .i64 (41 : Nat), .bool false, .bool true]) rfl hHeld ?_
  simp only [Act.put, sA, sZ, sS]
  refine tk 8 32 (.int .i64 (hh : Int)) rfl hHeld ?_
  simp only [Act.put, sA, sZ, sS]
  refine tk 9 33 (.int .i64 (T : Int)) rfl hHeld ?_
  simp only [Act.put, sA, sZ, sS]
  refine tk 10 34 (.int .i64 (41 : Nat)) rfl hHeld ?_
  simp only [Act.put, sA, sZ, sS]
  refine tk 11 35 (.bool false) rfl hHeld ?_
  simp only [Act.put, sA, sZ, sS]
  refine tk 12 36 (.bool true) rfl hHeld ?_
  simp only [Act.put, sA, sZ, sS]
  refine tk 13 6 (.int .i64 (hh : Int)) rfl hHeld ?_
  simp only [Act.put, sA, sZ, sS]
  refine tk 14 7 (.int .i64 (T : Int)) rfl hHeld ?_
  simp only [Act.put, sA, sZ, sS]
  refine tk 15 8 (.int .i64 (41 : Nat)) rfl hHeld ?_
  simp only [Act.put, sA, sZ, sS]
  refine tk 16 9 (.bool false) rfl hHeld ?_
  simp only [Act.put, sA, sZ, sS]
  refine tk 17 10 (.bool true) rfl hHeld ?_
  simp only [Act.put, sA, sZ, sS]
  refine wpAnyH_done (by kernel_rfl) ?_ _
  have HD3 := Lib.hid hHeld
  have HB3 := Lib.hid (HB2.out.trans (HD3.out.mono HB2.out.size))
  clear hHeld HT13 HT14
  have HK3 := Lib.hid (HK2.out.below HK2.out.lt HD3.out)
  have HTA3 := Lib.hid (HTA2.out.below HD3.out)
  have at3 := Blk_10.cell HK3.out (HAT.out (.slice At mt ct))
  have hct9 := HCT9.out
  have hwp1 := HWP1.out
  have hwp2 := HWP2.out
  go_wp2_with (first
    | ((with_reducible show wpList _ _ _ (⟨none, .store 3 (.tmp 60) _, _, _, _, _⟩ :: _) _ _); refine wpList_storeI_10 rfl (.tmp 60) _ rfl G 13 (by rfl) 2048 (by rfl) 41 _ HK3.out ty (HTY.out _) ?_; intro w4 hq4 hn4 hb4; rw [HST.out] at hq4; have HK4 := Lib.hid hq4; have HB4 := Lib.hid (HB3.out.trans (hb4.mono HG.out)); have HTA4 := Lib.hid (HTA3.out.kept (gb_of hn4 hb4) (own_ne HLTA.out)); clear hq4 hn4 hb4)
    | ((with_reducible show wpList _ _ _ (⟨none, .store 3 (.tmp 63) _, _, _, _, _⟩ :: _) _ _); refine wpList_storeI_10 rfl (.tmp 63) _ rfl G 13 (by rfl) 34525 (by rfl) 41 _ HK4.out 2048 (lk_ty { L with ty := 2048 } (six_ty H6.out _) _).1 ?_; intro w5 hq5 hn5 hb5; rw [HST2.out] at hq5; have HK5 := Lib.hid (show Blk w5 41 G (lkL { L with ty := 34525 } (.slice At mt ct)) from hq5); have HB5 := Lib.hid (HB4.out.trans (hb5.mono HG.out)); have HTA5 := Lib.hid (HTA4.out.kept (gb_of hn5 hb5) (own_ne HLTA.out)); have ty5 := Blk_10.cell HK5.out (HTY2.out (.slice At mt ct)); clear hq5 hn5 hb5))
  clear at3 hct9 hwp1 hwp2 ty5
  refine (HIN.out _ HB5.out).mono ?_
  rintro e w6 ⟨rfl, hb6⟩
  have HB6 := Lib.hid (HB5.out.trans (hb6.mono HB5.out.size))
  have HK6 := Lib.hid (HK5.out.below HK5.out.lt hb6)
  have HTA6 := Lib.hid (HTA5.out.below hb6)
  clear hb6
  cases bq with
  | false =>
    go_wp2_with fail
    go_ret2
    first
      | exact ⟨fun h => (by cases h), fun _ => rfl, HB6.out⟩
      | exact ⟨rfl, HB6.out⟩
  | true =>
    go_upto_region 14 with (fail)
    have HTG := Lib.hid (fun (W : World) (hW : Below w6.heap.size w6 W) => show TagsAt W W.heap.size At mt L.ts from tags_of (HTA6.out.below hW))
    have HPRW := Lib.hid (fun (W : World) (hW : Below w6.heap.size w6 W) => show Rd W w.heap.size IA U (ib.take U) from (HIL.out.below (HB6.out.trans (hW.mono HB6.out.size))).take HIT.out)
    refine wp_region_held_drew (S := fun W => Below w6.heap.size w6 W) (by kernel_rfl) ((Below.refl _ _).drew) (fun hHeld => ?_)
    obtain ⟨X, hX⟩ : ∃ X, w6.drew = X := ⟨_, rfl⟩
    rw [hX] at hHeld ⊢
    clear hX
    refine tkY 0 76 (lkC { L with ty := 34525 } (.slice At mt ct)) rfl (yieldsIf_load_mid (by rfl) 41 _ rfl G 0 rfl (lkL { L with ty := 34525 } (.slice At mt ct)) _ (fun W hW => Blk_10.range (HK6.out.below HK6.out.lt hW)) Try.underlying41 rfl (sizeLkL (six_ty H6.out _) _)) hHeld ?_
    simp only [Act.put, sA, sZ, sS]
    refine tk 2 78 (.slice IA M ic) rfl hHeld ?_
    simp only [Act.put, sA, sZ, sS]
    refine tk 3 79 (.int .i64 (U : Int)) rfl hHeld ?_
    simp only [Act.put, sA, sZ, sS]
    refine tkY 4 80 (.slice IA U ic) rfl (Or.inl ⟨by rfl, fun W _ => by have hs := HUP.out W; go_simp⟩) hHeld ?_
    simp only [Act.put, sA, sZ, sS]
    refine wpAnyH_ready (rs := [1]) (by kernel_rfl) (by simp) (AllReadyH.cons (o := ⟨some 77, _, _, _, _, _⟩) rfl (fun K hK => ?_) AllReadyH.nil)
    go_simp
    refine (HLK.out _ At mt ct (HTG.out _ hHeld)).mono ?_
    rintro e w7 ⟨v7, rfl, ho7, hb7⟩
    have HO7 := Lib.hid (ho7.base_le hHeld.size)
    have HB7 := Lib.hid (hHeld.trans (hb7.mono hHeld.size))
    refine hK.out _ _ (HB7.out) (fun hHeld => ?_)
    clear hK K hb7 ho7
    refine wpAnyH_ready (rs := [5]) (by kernel_rfl) (by simp) (AllReadyH.cons (o := ⟨some 81, _, _, _, _, _⟩) rfl (fun K hK => ?_) AllReadyH.nil)
    refine step_append8 rfl (.tmp 77) (.tmp 80) rfl w6.heap.size _ lb (by rfl) HO7.out _ IA U ic (ib.take U) (by rfl) (HPRW.out _ HB7.out) (by have := HLT.out; have := HIT.out; have := HMB.out; omega) HB7.out.size ?_
    intro v8 w8 ho8 hg8
    have HO8 := Lib.hid ho8
    have HB8 := Lib.hid (HB7.out.grown hg8 HB7.out.size HO7.out.lt)
    refine hK.out _ _ (HB8.out) (fun hHeld => ?_)
    clear hK K ho8 hg8
    refine tk 6 2 v8 rfl hHeld ?_
    simp only [Act.put, sA, sZ, sS]
    refine tk 7 3 (.bool true) rfl hHeld ?_
    simp only [Act.put, sA, sZ, sS]
    refine wpAnyH_done (by kernel_rfl) ?_ _
    go_wp2_with fail
    go_ret2
    have HF8 := HB6.out.trans (HB8.out.mono HB6.out.size)
    have HO8' := HO8.out.base_le HB6.out.size
    first
      | exact ⟨fun _ => ⟨_, rfl, HO8'⟩, fun h => (by cases h), HF8⟩
      | exact ⟨⟨_, rfl, HO8'⟩, HF8⟩

/-- The document's Unwrap. -/
theorem runw_any (A : Option Addr) (len cap : Nat) (xs : List UInt8) (hlen : len ≤ 90000) (hcap : len ≤ cap) (w : World) (hI : Rd w w.heap.size A len xs) :
    Calls Try.prog 14 #[.slice A len cap] w (RuGave w xs) := by
  have hno : unB xs = false → ∀ {e : Ending} {w' : World}, (e = .returned (.tuple #[.slice none 0 0, .bool false]) ∧ Below w.heap.size w w') → RuGave w xs e w' := fun hub e w' h => ⟨fun h1 => absurd (hub.symm.trans h1) (by decide), fun _ => h.1, h.2⟩
  by_cases h0 : (rdOf xs).2 = 0
  · by_cases he : (fN xs).e = 0
    · cases hf1 : (fN xs).frag with
      | true => exact (runw_frag A len cap xs hlen hcap h0 he hf1 w hI).mono fun e w' h => hno (by unfold unB; rw [hf1]; simp) h
      | false =>
        by_cases h4 : (fN xs).proto = 4
        · exact runw_yes4 A len cap xs hlen hcap he hf1 h4 w hI
        · by_cases h6 : (fN xs).proto = 41
          · exact runw_yes41 A len cap xs hlen hcap he hf1 h6 w hI
          · have hx : ¬ ((fN xs).proto = 4 ∨ (fN xs).proto = 41) := by omega
            exact (runw_proto A len cap xs hlen hcap h0 he hf1 hx w hI).mono fun e w' h => hno (by unfold unB inN; rw [ntP_x hx, show decide ((ntNo 3).e = 0) = false from rfl]; simp) h
    · exact (runw_bad A len cap xs hlen hcap h0 he w hI).mono fun e w' h => hno (by unfold unB; rw [decide_eq_false he]; rfl) h
  · exact (runw_no A len cap xs hlen h0 w hI).mono fun e w' h => hno (by unfold unB; rw [fN_no h0]; rfl) h
end Go.Proofs.Ytomkfcpellcncaa
