/-
  MaglevTurned: its walk, the program's contracts a premise.
-/
import Derived.Test.YtmngagcekhlppaaVRight
import Derived.Deep.DeepCutAuto
namespace Go.Proofs.Ytmngagcekhlppaa
set_option maxRecDepth 100000
open Go.RowKit Go.Lib Go.ChangeShapes Go.WideShapes Go.ChangeAt

/-- What region 8's makers have laid: names, slots, and the table's own block. -/
structure VT (Z W : World) (N : List (List UInt8)) (L : List Int) (A5 : Option Addr) (c5 : Nat) (A6 : Option Addr) (c6 b : Nat) : Prop where
  bel : Below Z.heap.size Z W
  k1 : N.length ≤ c5
  k2 : c5 ≤ maxLen
  k3 : L.length ≤ c6
  k4 : c6 ≤ maxLen
  nm : OwnG eN W Z.heap.size (.slice A5 N.length c5) N
  sl : OwnG eZ W Z.heap.size (.slice A6 L.length c6) L
  tbl : Blk W 30 b [.slice none 0 0, .slice none 0 0]
  low : Z.heap.size ≤ b
  neN : (Value.slice A5 N.length c5).ownBlock ≠ some b
  neS : (Value.slice A6 L.length c6).ownBlock ≠ some b
theorem cut_vt {goal : Prop} {H : World → Option Addr → Nat → Option Addr → Nat → Nat → Prop} {M : World → Option Addr → Nat → Option Addr → Nat → Nat → Option Addr → Nat → Prop} (h1 : (∀ W a b c d e f g, H W a b c d e → M W a b c d e f g) → goal) (h2 : ∀ W a b c d e f g, H W a b c d e → M W a b c d e f g) : goal := h1 h2
set_option maxHeartbeats 16000000 in
theorem maglevTurned_walkW (S : MagC) (key : List UInt8) (hk : key.length = 16) (n : Nat) (hn : n < 256) (A : Option Addr) (len cap : Nat) (xs : List Shr) (hc : len ≤ cap) (hm : cap ≤ maxLen) (_hX : ∀ x, x ∈ xs → x.nm.length ≤ maxLen ∧ -9223372036854775808 ≤ x.q ∧ x.q ≤ 9223372036854775807) (at_ : Nat) (hat : at_ < 256) (w : World) (hI : RdG eS w w.heap.size A len xs) :
    Calls Try.prog 6 #[keyC key, .int .u8 (n : Int), .slice A len cap, .int .u8 (at_ : Int)] w fun e w' => e = .returned (.bool true) ∧ Below w.heap.size w w' := by
  obtain ⟨C0, hC0⟩ : ∃ C, (key.map v8).toArray = C := ⟨_, rfl⟩
  obtain ⟨Y, hY⟩ : ∃ Y, w.alloc (.cells C0 22) = Y := ⟨_, rfl⟩
  have HK0 := Lib.hid (show Blk Y 22 w.heap.size (key.map v8) by rw [← hY, ← hC0]; exact Blk_10.new w _ _)
  have HB0 := Lib.hid (show Below w.heap.size w Y by rw [← hY]; exact (Below.refl w.heap.size w).alloc (Nat.le_refl _) _)
  have HY := Lib.hid hY
  have HKE : Hid (keyC key = .agg C0) := Lib.hid (by rw [← hC0]; rfl)
  rw [HKE.out]
  have HKL := Lib.hid hk
  have HI := Lib.hid hI
  have HLE := Lib.hid hI.len
  have HCP := Lib.hid hc
  have HCM := Lib.hid hm
  have HAW := Lib.hid (fun W => awake_any S W)
  have HSS := Lib.hid S
  have hlb : len ≤ 9223372036854775807 := by unfold maxLen at hm; omega
  have HLB := Lib.hid hlb
  have HF0 : Hid (∀ W, Below w.heap.size w W → Calls Try.prog 11 #[.slice A len cap] W fun e w' => e = .returned (.bool (fewB xs)) ∧ w' = W) := Lib.hid (fun W hW => rfew_any cap HLB.out W (HI.out.below hW))
  have HM0 : Hid (∀ W, Below w.heap.size w W → Calls Try.prog 14 #[.slice A len cap] W fun e w' => e = .returned (.bool (mayB xs)) ∧ Below W.heap.size W w') := Lib.hid (fun W hW => rmay_any cap W (HI.out.below hW))
  clear hY hC0 hk hI hc hm hlb S _hX
  obtain ⟨F, hF⟩ : ∃ F, fewB xs = F := ⟨_, rfl⟩
  obtain ⟨M, hM⟩ : ∃ M, mayB xs = M := ⟨_, rfl⟩
  rw [hF] at HF0
  rw [hM] at HM0
  have HFE := Lib.hid hF
  have HME := Lib.hid hM
  clear hF hM
  go_enter Try.func6, Try.ntmps6
  go_wp2_with fail
  rw [HY.out]
  refine (HAW.out Y).mono ?_
  rintro e W1 ⟨rfl, hb⟩
  have D1 := Lib.hid (HB0.out.trans (hb.mono HB0.out.size))
  have HK1 := Lib.hid (Blk_10.below HK0.out (Blk_10.lt HK0.out) hb)
  clear hb
  cases F
  · go_wp2_with ((with_reducible refine (HF0.out W1 D1.out).mono ?_); rintro e W2 ⟨rfl, rfl⟩)
    refine (HAW.out _).mono ?_
    rintro e W3 ⟨rfl, hb⟩
    go_wp2_with fail
    go_ret
    exact ⟨rfl, D1.out.trans (hb.mono D1.out.size)⟩
  · cases M
    · go_wp2_with (first
        | ((with_reducible refine (HF0.out W1 D1.out).mono ?_); rintro e W2 ⟨rfl, rfl⟩)
        | ((with_reducible refine (HM0.out _ D1.out).mono ?_); rintro e W3 ⟨rfl, hb⟩; have D3 := Lib.hid (D1.out.trans (hb.mono D1.out.size)); clear hb))
      refine (HAW.out _).mono ?_
      rintro e W4 ⟨rfl, hb⟩
      go_wp2_with fail
      go_ret
      exact ⟨rfl, D3.out.trans (hb.mono D3.out.size)⟩
    · have HMS := Lib.hid ((mayB_iff xs).1 HME.out)
      have HN3 := Lib.hid (fewB_n HFE.out HLE.out)
      have HSH := Lib.hid (fewB_s HFE.out)
      have hnx := rnext_any (n : Int) (by omega) (by omega)
      obtain ⟨hsz, _, _⟩ := nextN_size (z := (n : Int)) (by omega)
      obtain ⟨p, hp⟩ : ∃ p, nextN (n : Int) = p := ⟨_, rfl⟩
      rw [hp] at hnx hsz
      have HNX := Lib.hid hnx
      have HSZ := Lib.hid hsz
      obtain ⟨R, hR⟩ : ∃ R, riseL xs = R := ⟨_, rfl⟩
      have HR := Lib.hid hR
      have HFU := Lib.hid (show Full R by rw [← hR]; exact HMS.out.full)
      obtain ⟨N, hN⟩ : ∃ N, R.map Shr.nm = N := ⟨_, rfl⟩
      have HN := Lib.hid hN
      obtain ⟨L, hL⟩ : ∃ L, slotL key p R = L := ⟨_, rfl⟩
      have HL := Lib.hid hL
      clear hnx hsz hp hR hN hL
      have h30 : len ≤ 30 := HN3.out
      obtain ⟨k, hkk⟩ : ∃ k, at_ % (len + 1) = k := ⟨_, rfl⟩
      have hkl : k ≤ len := by have := Nat.mod_lt at_ (show 0 < len + 1 by omega); omega
      have hkm : (at_ : Int) % ((len : Int) + 1) = (k : Int) := by
        rw [← hkk, Int.natCast_emod, Int.natCast_add]
        rfl
      have hkt : Int.tmod (at_ : Int) ((len : Int) + 1) = (k : Int) := by rw [Int.tmod_eq_emod_of_nonneg (by omega)]; exact hkm
      have hk0 : ((len : Int) + 1 == 0) = false := by simp; omega
      have HKK := Lib.hid hkl
      clear hkk
      go_wp2_with (first
        | ((with_reducible refine (HF0.out W1 D1.out).mono ?_); rintro e W2 ⟨rfl, rfl⟩)
        | ((with_reducible refine (HM0.out _ D1.out).mono ?_); rintro e W3 ⟨rfl, hb⟩; have D3 := Lib.hid (D1.out.trans (hb.mono D1.out.size)); have HK3 := Lib.hid (Blk_10.below HK1.out (Blk_10.lt HK1.out) hb); clear hb)
        | ((with_reducible refine (HNX.out _).mono ?_); rintro e W4 ⟨rfl, rfl⟩))
      have HIW : Hid (∀ W, Below w.heap.size w W → RdG eS W w.heap.size A len xs) := Lib.hid (fun W hW => HI.out.below hW)
      have hkc : (k : Int) ≤ (cap : Int) := by have := HCP.out; omega
      have hkl2 : (k : Int) ≤ (len : Int) := by omega
      have HLX : Hid ((xs.drop k).length = len - k) := Lib.hid (by rw [List.length_drop, HLE.out])
      have HLT : Hid ((xs.drop k ++ xs.take k).length = len) := Lib.hid (by rw [List.length_append, List.length_drop, List.length_take, HLE.out]; omega)
      have HB4 := Lib.hid (show w.heap.size ≤ W3.heap.size from D3.out.size)
      refine wp_region_held_drew (S := fun W => Below W3.heap.size W3 W) (by kernel_rfl) ((Below.refl W3.heap.size W3).drew) (fun hHeld => ?_)
      obtain ⟨X1, hX⟩ : ∃ X, W3.drew = X := ⟨_, rfl⟩
      rw [hX] at hHeld ⊢
      clear hX
      refine tk 1 41 (.slice A len cap) rfl hHeld ?_
      simp only [Act.put, sA, sZ, sS]
      refine tk 2 42 (.int .i64 (k : Int)) rfl hHeld ?_
      simp only [Act.put, sA, sZ, sS]
      refine tk 3 43 (.slice (if cap = k then A else A.map fun a => a.add (k * 2)) (len - k) (cap - k)) rfl hHeld ?_
      simp only [Act.put, sA, sZ, sS]
      have HDR : Hid (∀ W, Below w.heap.size w W → RdG eS W w.heap.size (if cap = k then A else A.map fun a => a.add (k * 2)) (len - k) (xs.drop k)) := Lib.hid (fun W hW => rd_rest cap (HIW.out W hW) HKK.out HCP.out)
      generalize (if cap = k then A else A.map fun a => a.add (k * 2)) = AR at HDR ⊢
      refine tk 5 45 (.slice A len cap) rfl hHeld ?_
      simp only [Act.put, sA, sZ, sS]
      refine tk 6 46 (.int .i64 (k : Int)) rfl hHeld ?_
      simp only [Act.put, sA, sZ, sS]
      refine tk 7 47 (.slice A k cap) rfl hHeld ?_
      simp only [Act.put, sA, sZ, sS]
      refine wpAnyH_ready (rs := [0]) (by kernel_rfl) (by simp) (AllReadyH.cons (o := ⟨some 40, _, _, _, _, _⟩) rfl (fun K hK => ?_) AllReadyH.nil)
      go_simp
      have HV0 := Lib.hid (show OwnG eS (X1.alloc (.cells #[] 48)) W3.heap.size (.slice (some ⟨X1.heap.size, 0, none⟩) 0 0) [] from OwnG.empty eS X1 hHeld.size)
      have HBB := Lib.hid (hHeld.alloc hHeld.size (.cells #[] 48))
      generalize X1.alloc (.cells #[] 48) = X2 at HV0 HBB ⊢
      generalize X1.heap.size = g0 at HV0 ⊢
      refine hK.out _ _ HBB.out (fun hHeld => ?_)
      clear hK K
      refine wpAnyH_ready (rs := [4]) (by kernel_rfl) (by simp) (AllReadyH.cons (o := ⟨some 44, _, _, _, _, _⟩) rfl (fun K hK => ?_) AllReadyH.nil)
      refine step_appendG eS rfl (.tmp 40) (.tmp 43) rfl W3.heap.size _ [] (by rfl) HV0.out _ _ _ _ (xs.drop k) (by rfl) (HDR.out X2 (D3.out.trans (hHeld.mono HB4.out))) (by have := HN3.out; simp only [List.length_nil]; omega) hHeld.size ?_
      intro v1 X3 hv1 hg1 _
      have HBC := Lib.hid (hHeld.grown hg1 hHeld.size HV0.out.lt)
      have HV1 := Lib.hid hv1
      clear hv1 hg1 HV0 HBB
      refine hK.out _ _ HBC.out (fun hHeld => ?_)
      clear hK K
      refine wpAnyH_ready (rs := [8]) (by kernel_rfl) (by simp) (AllReadyH.cons (o := ⟨some 48, _, _, _, _, _⟩) rfl (fun K hK => ?_) AllReadyH.nil)
      refine step_appendG eS rfl (.tmp 44) (.tmp 47) rfl W3.heap.size _ ([] ++ xs.drop k) (by rfl) HV1.out _ A k cap (xs.take k) (by rfl) ((HIW.out X3 (D3.out.trans (hHeld.mono HB4.out))).take HKK.out) (by have := HN3.out; have := HLX.out; have := HKK.out; rw [List.nil_append]; omega) hHeld.size ?_
      intro v2 X4 hv2 hg2 _
      have HBD := Lib.hid (hHeld.grown hg2 hHeld.size HV1.out.lt)
      rw [List.nil_append] at hv2
      obtain ⟨A9, m9, c9, rfl, e9, k9, l9, _⟩ := hv2.sl
      rw [HLT.out] at e9
      subst m9
      have HV2 := Lib.hid hv2
      have HK9 := Lib.hid k9
      have HL9 := Lib.hid l9
      clear hv2 hg2 HV1 HBC k9 l9
      refine hK.out _ _ HBD.out (fun hHeld => ?_)
      clear hK K
      refine tk 9 11 (.slice A9 len c9) rfl hHeld ?_
      simp only [Act.put, sA, sZ, sS]
      refine wpAnyH_done (by kernel_rfl) ?_ _
      clear hHeld
      have D4 := Lib.hid (D3.out.trans (HBD.out.mono HB4.out))
      have HK4 := Lib.hid (Blk_10.below HK3.out (Blk_10.lt HK3.out) HBD.out)
      have P1 : Hid (∀ W, Below w.heap.size w W → Calls Try.prog 12 #[.agg (key.map v8).toArray, .int .i64 (p : Int), .slice A len cap] W (BuildGave N L W)) := Lib.hid (fun W hW => build_gave HSS.out key HKL.out p HSZ.out A len cap xs HMS.out HN3.out HSH.out HCP.out HCM.out W _ hW.size (HIW.out W hW) N (by rw [HR.out, HN.out]) L (by rw [HR.out, HL.out]))
      have P2 : Hid (∀ W, Below X4.heap.size X4 W → Calls Try.prog 12 #[.agg (key.map v8).toArray, .int .i64 (p : Int), .slice A9 len c9] W (BuildGave N L W)) := Lib.hid (fun W hW => build_gave HSS.out key HKL.out p HSZ.out A9 len c9 (xs.drop k ++ xs.take k) (HMS.out.turn k) HN3.out (fun x hx => HSH.out x (by rcases List.mem_append.1 hx with h | h; exact List.mem_of_mem_drop h; exact List.mem_of_mem_take h)) HK9.out HL9.out W _ (Nat.le_refl _) (HV2.out.below hW).rd N (by rw [riseL_turn HMS.out.apart, HR.out, HN.out]) L (by rw [riseL_turn HMS.out.apart, HR.out, HL.out]))
      go_wp2_with (first
        | ((with_reducible show wpList _ _ _ (⟨some 50, _, _, _, _, _⟩ :: _) _ _); refine wpList_loadM (op := ⟨some 50, _, _, _, _, _⟩) 22 _ rfl (by rfl) w.heap.size 0 (by rfl) (key.map v8) (Blk_10.range HK4.out) _ Try.underlying22 rfl (keyp_size HKL.out) ?_)
        | ((with_reducible refine (P1.out X4 D4.out).mono ?_); rintro e W5 ⟨A1, c1, A2, c2, rfl, k1, k2, k3, k4, ho1, ho2, hb⟩; have HO1 := Lib.hid ho1; have HO2 := Lib.hid ho2; have HB5 := Lib.hid hb; have HJ1 := Lib.hid k1; have HJ2 := Lib.hid k2; have HJ3 := Lib.hid k3; have HJ4 := Lib.hid k4; clear ho1 ho2 hb k1 k2 k3 k4)
        | (obtain ⟨Z5, hZ5⟩ : ∃ Z, W5.alloc (.cells #[.slice A1 N.length c1, .slice A2 L.length c2] 30) = Z := ⟨_, rfl⟩; rw [hZ5]; have HZ5 := Lib.hid hZ5; clear hZ5; have HT5 : Hid (Blk Z5 30 W5.heap.size [.slice A1 N.length c1, .slice A2 L.length c2]) := Lib.hid (by rw [← HZ5.out]; exact tbl_new _ _ _); have HB6 : Hid (Below X4.heap.size X4 Z5) := Lib.hid (below_zed HB5.out HZ5.out); have HK5 := Lib.hid (Blk_10.below HK4.out (Blk_10.lt HK4.out) HB6.out); ((with_reducible show wpList _ _ _ (⟨some 57, _, _, _, _, _⟩ :: _) _ _); refine wpList_loadM (op := ⟨some 57, _, _, _, _, _⟩) 22 _ rfl (by rfl) w.heap.size 0 (by rfl) (key.map v8) (Blk_10.range HK5.out) _ Try.underlying22 rfl (keyp_size HKL.out) ?_))
        | ((with_reducible refine (P2.out Z5 HB6.out).mono ?_); rintro e W6 ⟨A3, c3, A4, c4, rfl, k1, k2, k3, k4, ho1, ho2, hb⟩; have HO3 := Lib.hid ho1; have HO4 := Lib.hid ho2; have HB7 := Lib.hid hb; have HJ5 := Lib.hid k1; have HJ6 := Lib.hid k2; have HJ7 := Lib.hid k3; have HJ8 := Lib.hid k4; clear ho1 ho2 hb k1 k2 k3 k4))
      obtain ⟨Z6, hZ6⟩ : ∃ Z, W6.alloc (.cells #[.slice A3 N.length c3, .slice A4 L.length c4] 30) = Z := ⟨_, rfl⟩
      rw [hZ6]
      have HZ6 := Lib.hid hZ6
      clear hZ6
      have HT6 : Hid (Blk Z6 30 W6.heap.size [.slice A3 N.length c3, .slice A4 L.length c4]) := Lib.hid (by rw [← HZ6.out]; exact tbl_new _ _ _)
      have HB8 : Hid (Below Z5.heap.size Z5 Z6) := Lib.hid (below_zed HB7.out HZ6.out)
      have D6 : Hid (Below w.heap.size w Z6) := Lib.hid ((D4.out.trans (HB6.out.mono D4.out.size)).trans (HB8.out.mono (Nat.le_trans D4.out.size HB6.out.size)))
      have HK6 := Lib.hid (Blk_10.below HK5.out (Blk_10.lt HK5.out) HB8.out)
      have HRW : Hid (∀ W, Below Z6.heap.size Z6 W → Calls Try.prog 20 #[.slice A len cap] W fun e w' => ∃ A8 c8, e = .returned (.slice A8 R.length c8) ∧ R.length ≤ c8 ∧ c8 ≤ maxLen ∧ OwnG eS w' W.heap.size (.slice A8 R.length c8) R ∧ Below W.heap.size W w') := Lib.hid (fun W hW => by
        have hw := D6.out.trans (hW.mono D6.out.size)
        refine (rrise_any cap (Nat.le_trans HN3.out (by decide)) W hw.size (HIW.out W hw)).mono ?_
        rintro e w' ⟨v, he, hov, hb⟩
        rw [HR.out] at hov
        obtain ⟨A8, m8, c8, rfl, e8, k8, l8, _⟩ := hov.sl
        subst m8
        exact ⟨A8, c8, he, k8, l8, hov, hb⟩)
      have HRI : Hid (riseL R = R) := Lib.hid (by rw [← HR.out]; exact riseL_twice HMS.out.apart)
      have HMR : Hid (MayS R) := Lib.hid (by rw [← HR.out]; exact HMS.out.rise)
      have HRL : Hid (R.length ≤ 30) := Lib.hid (by
        have h9 := (riseL_perm xs).length_eq
        have h8 := List.length_filter_le (fun x : Shr => decide (x.q ≠ 0)) xs
        have h7 := HN3.out
        have h6 := HLE.out
        rw [HR.out] at h9
        omega)
      have HRS : Hid (∀ x, x ∈ R → x.nm.length ≤ 60) := Lib.hid (fun x hx => HSH.out x (by rw [← HR.out] at hx; exact (riseL_mem.1 hx).1))
      have P3 : Hid (∀ (A8 : Option Addr) (c8 : Nat) (_ : R.length ≤ c8) (_ : c8 ≤ maxLen) (W : World) (_ : RdG eS W W.heap.size A8 R.length R), Calls Try.prog 12 #[keyC key, .int .i64 (p : Int), .slice A8 R.length c8] W (BuildGave N L W)) := Lib.hid (fun A8 c8 h1 h2 W h3 => build_gave HSS.out key HKL.out p HSZ.out A8 R.length c8 R HMR.out HRL.out HRS.out h1 h2 W _ (Nat.le_refl _) h3 N (by rw [HRI.out, HN.out]) L (by rw [HRI.out, HL.out]))
      apply cut_vt (H := fun W A5 c5 A6 c6 b => VT Z6 W N L A5 c5 A6 c6 b)
      case h1 =>
        intro hc
        refine wp_region_held_drew (S := fun W => Below Z6.heap.size Z6 W) (by kernel_rfl) ((Below.refl Z6.heap.size Z6).drew) (fun hHeld => ?_)
        obtain ⟨X0, hX0⟩ : ∃ X, Z6.drew = X := ⟨_, rfl⟩
        rw [hX0] at hHeld ⊢
        clear hX0
        refine tkY 0 64 (keyC key) rfl (yields_keyp (by rfl) _ rfl w.heap.size rfl key HKL.out (fun W hW => Blk_10.below HK6.out (Blk_10.lt HK6.out) hW)) hHeld ?_
        simp only [Act.put, sA, sZ, sS]
        refine tk 1 65 (.int .i64 (p : Int)) rfl hHeld ?_
        simp only [Act.put, sA, sZ, sS]
        refine tk 2 66 (.slice A len cap) rfl hHeld ?_
        simp only [Act.put, sA, sZ, sS]
        refine wpAnyH_ready (rs := [3, 8]) (by kernel_rfl) (by simp) (AllReadyH.cons (o := ⟨some 67, _, _, _, _, _⟩) rfl (fun K hK => ?_) (AllReadyH.cons (o := ⟨some 16, _, _, _, _, _⟩) rfl (fun K hK => ?_) AllReadyH.nil))
        · go_simp
          refine (HRW.out X0 hHeld).mono ?_
          rintro e X1 ⟨A8, c8, rfl, k8, l8, hov, hb'⟩
          have HK8 := Lib.hid k8
          have HL8 := Lib.hid l8
          clear k8 l8
          have HV8 := Lib.hid (hov.base_le hHeld.size)
          clear hov
          refine hK.out _ _ (hHeld.trans (hb'.mono hHeld.size)) (fun hHeld => ?_)
          clear hK K hb'
          refine wpAnyH_ready (rs := [4, 8]) (by kernel_rfl) (by simp) (AllReadyH.cons (o := ⟨some 68, _, _, _, _, _⟩) rfl (fun K hK => ?_) (AllReadyH.cons (o := ⟨some 16, _, _, _, _, _⟩) rfl (fun K hK => ?_) AllReadyH.nil))
          · go_simp
            refine (P3.out A8 c8 HK8.out HL8.out X1 HV8.out.rd).mono ?_
            rintro e X2 ⟨A5, c5, A6, c6, rfl, k1, k2, k3, k4, ho1, ho2, hb'⟩
            have HJA := Lib.hid k1
            have HJB := Lib.hid k2
            have HJC := Lib.hid k3
            have HJD := Lib.hid k4
            clear k1 k2 k3 k4
            have HO5 := Lib.hid (ho1.base_le hHeld.size)
            have HO6 := Lib.hid (ho2.base_le hHeld.size)
            clear ho1 ho2
            refine hK.out _ _ (hHeld.trans (hb'.mono hHeld.size)) (fun hHeld => ?_)
            clear hK K hb'
            refine tk 5 63 (.tuple #[.agg #[.slice A5 N.length c5, .slice A6 L.length c6], .int .i64 0]) rfl hHeld ?_
            simp only [Act.put, sA, sZ, sS]
            refine tk 6 69 (.agg #[.slice A5 N.length c5, .slice A6 L.length c6]) rfl hHeld ?_
            simp only [Act.put, sA, sZ, sS]
            refine tk 7 70 (.int .i64 0) rfl hHeld ?_
            simp only [Act.put, sA, sZ, sS]
            refine wpAnyH_ready (rs := [8]) (by kernel_rfl) (by simp) (AllReadyH.cons (o := ⟨some 16, _, _, _, _, _⟩) rfl (fun K hK => ?_) AllReadyH.nil)
            go_simp
            have hb' : Below X2.heap.size X2 (X2.alloc (.cells #[.slice none 0 0, .slice none 0 0] 30)) := (Below.refl _ _).alloc (Nat.le_refl _) _
            have htb := tbl_new X2 (.slice none 0 0) (.slice none 0 0)
            obtain ⟨X3, hX⟩ : ∃ X, X2.alloc (.cells #[.slice none 0 0, .slice none 0 0] 30) = X := ⟨_, rfl⟩
            rw [hX] at hb' htb ⊢
            clear hX
            obtain ⟨tb, htbe⟩ : ∃ t, X2.heap.size = t := ⟨_, rfl⟩
            rw [htbe] at htb ⊢
            have HTG : Hid (Z6.heap.size ≤ tb) := Lib.hid (by rw [← htbe]; exact hHeld.size)
            clear htbe
            have HO5' := Lib.hid (HO5.out.below hb')
            have HO6' := Lib.hid (HO6.out.below hb')
            clear HO5 HO6
            have HO5 := HO5'
            have HO6 := HO6'
            clear HO5' HO6'
            have HTB := Lib.hid htb
            clear htb
            refine hK.out _ _ (hHeld.trans (hb'.mono hHeld.size)) (fun hHeld => ?_)
            clear hK K hb'
            exact hc X3 A5 c5 A6 c6 tb A8 c8 ⟨hHeld, HJA.out, HJB.out, HJC.out, HJD.out, HO5.out, HO6.out, HTB.out, HTG.out, ne_types HO5.out HTB.out (by decide), ne_types HO6.out HTB.out (by decide)⟩
          · go_simp
            have hb' : Below X1.heap.size X1 (X1.alloc (.cells #[.slice none 0 0, .slice none 0 0] 30)) := (Below.refl _ _).alloc (Nat.le_refl _) _
            have htb := tbl_new X1 (.slice none 0 0) (.slice none 0 0)
            obtain ⟨X2, hX⟩ : ∃ X, X1.alloc (.cells #[.slice none 0 0, .slice none 0 0] 30) = X := ⟨_, rfl⟩
            rw [hX] at hb' htb ⊢
            clear hX
            obtain ⟨tb, htbe⟩ : ∃ t, X1.heap.size = t := ⟨_, rfl⟩
            rw [htbe] at htb ⊢
            have HTG : Hid (Z6.heap.size ≤ tb) := Lib.hid (by rw [← htbe]; exact hHeld.size)
            clear htbe
            have HV8' := Lib.hid (HV8.out.below hb')
            clear HV8
            have HV8 := HV8'
            clear HV8'
            have HTB := Lib.hid htb
            clear htb
            refine hK.out _ _ (hHeld.trans (hb'.mono hHeld.size)) (fun hHeld => ?_)
            clear hK K hb'
            refine wpAnyH_ready (rs := [4]) (by kernel_rfl) (by simp) (AllReadyH.cons (o := ⟨some 68, _, _, _, _, _⟩) rfl (fun K hK => ?_) AllReadyH.nil)
            go_simp
            refine (P3.out A8 c8 HK8.out HL8.out X2 HV8.out.rd).mono ?_
            rintro e X3 ⟨A5, c5, A6, c6, rfl, k1, k2, k3, k4, ho1, ho2, hb'⟩
            have HJA := Lib.hid k1
            have HJB := Lib.hid k2
            have HJC := Lib.hid k3
            have HJD := Lib.hid k4
            clear k1 k2 k3 k4
            have HTB' := Lib.hid (Blk_10.below HTB.out (Blk_10.lt HTB.out) hb')
            clear HTB
            have HTB := HTB'
            clear HTB'
            have HO5 := Lib.hid (ho1.base_le hHeld.size)
            have HO6 := Lib.hid (ho2.base_le hHeld.size)
            clear ho1 ho2
            refine hK.out _ _ (hHeld.trans (hb'.mono hHeld.size)) (fun hHeld => ?_)
            clear hK K hb'
            refine tk 5 63 (.tuple #[.agg #[.slice A5 N.length c5, .slice A6 L.length c6], .int .i64 0]) rfl hHeld ?_
            simp only [Act.put, sA, sZ, sS]
            refine tk 6 69 (.agg #[.slice A5 N.length c5, .slice A6 L.length c6]) rfl hHeld ?_
            simp only [Act.put, sA, sZ, sS]
            refine tk 7 70 (.int .i64 0) rfl hHeld ?_
            simp only [Act.put, sA, sZ, sS]
            exact hc X3 A5 c5 A6 c6 tb A8 c8 ⟨hHeld, HJA.out, HJB.out, HJC.out, HJD.out, HO5.out, HO6.out, HTB.out, HTG.out, ne_types HO5.out HTB.out (by decide), ne_types HO6.out HTB.out (by decide)⟩
        · go_simp
          have hb' : Below X0.heap.size X0 (X0.alloc (.cells #[.slice none 0 0, .slice none 0 0] 30)) := (Below.refl _ _).alloc (Nat.le_refl _) _
          have htb := tbl_new X0 (.slice none 0 0) (.slice none 0 0)
          obtain ⟨X1, hX⟩ : ∃ X, X0.alloc (.cells #[.slice none 0 0, .slice none 0 0] 30) = X := ⟨_, rfl⟩
          rw [hX] at hb' htb ⊢
          clear hX
          obtain ⟨tb, htbe⟩ : ∃ t, X0.heap.size = t := ⟨_, rfl⟩
          rw [htbe] at htb ⊢
          have HTG : Hid (Z6.heap.size ≤ tb) := Lib.hid (by rw [← htbe]; exact hHeld.size)
          clear htbe
          have HTB := Lib.hid htb
          clear htb
          refine hK.out _ _ (hHeld.trans (hb'.mono hHeld.size)) (fun hHeld => ?_)
          clear hK K hb'
          refine wpAnyH_ready (rs := [3]) (by kernel_rfl) (by simp) (AllReadyH.cons (o := ⟨some 67, _, _, _, _, _⟩) rfl (fun K hK => ?_) AllReadyH.nil)
          go_simp
          refine (HRW.out X1 hHeld).mono ?_
          rintro e X2 ⟨A8, c8, rfl, k8, l8, hov, hb'⟩
          have HK8 := Lib.hid k8
          have HL8 := Lib.hid l8
          clear k8 l8
          have HTB' := Lib.hid (Blk_10.below HTB.out (Blk_10.lt HTB.out) hb')
          clear HTB
          have HTB := HTB'
          clear HTB'
          have HV8 := Lib.hid (hov.base_le hHeld.size)
          clear hov
          refine hK.out _ _ (hHeld.trans (hb'.mono hHeld.size)) (fun hHeld => ?_)
          clear hK K hb'
          refine wpAnyH_ready (rs := [4]) (by kernel_rfl) (by simp) (AllReadyH.cons (o := ⟨some 68, _, _, _, _, _⟩) rfl (fun K hK => ?_) AllReadyH.nil)
          go_simp
          refine (P3.out A8 c8 HK8.out HL8.out X2 HV8.out.rd).mono ?_
          rintro e X3 ⟨A5, c5, A6, c6, rfl, k1, k2, k3, k4, ho1, ho2, hb'⟩
          have HJA := Lib.hid k1
          have HJB := Lib.hid k2
          have HJC := Lib.hid k3
          have HJD := Lib.hid k4
          clear k1 k2 k3 k4
          have HTB' := Lib.hid (Blk_10.below HTB.out (Blk_10.lt HTB.out) hb')
          clear HTB
          have HTB := HTB'
          clear HTB'
          have HO5 := Lib.hid (ho1.base_le hHeld.size)
          have HO6 := Lib.hid (ho2.base_le hHeld.size)
          clear ho1 ho2
          refine hK.out _ _ (hHeld.trans (hb'.mono hHeld.size)) (fun hHeld => ?_)
          clear hK K hb'
          refine tk 5 63 (.tuple #[.agg #[.slice A5 N.length c5, .slice A6 L.length c6], .int .i64 0]) rfl hHeld ?_
          simp only [Act.put, sA, sZ, sS]
          refine tk 6 69 (.agg #[.slice A5 N.length c5, .slice A6 L.length c6]) rfl hHeld ?_
          simp only [Act.put, sA, sZ, sS]
          refine tk 7 70 (.int .i64 0) rfl hHeld ?_
          simp only [Act.put, sA, sZ, sS]
          exact hc X3 A5 c5 A6 c6 tb A8 c8 ⟨hHeld, HJA.out, HJB.out, HJC.out, HJD.out, HO5.out, HO6.out, HTB.out, HTG.out, ne_types HO5.out HTB.out (by decide), ne_types HO6.out HTB.out (by decide)⟩
      case h2 =>
        intro W7 A5 c5 A6 c6 tb A8 c8 hh
        have HH := Lib.hid hh
        have hHeld := hh.bel
        clear hh
        refine wpAnyH_ready (rs := [9]) (by kernel_rfl) (by simp) (AllReadyH.cons (o := ⟨none, _, _, _, _, _⟩) rfl (fun K hK => ?_) AllReadyH.nil)
        refine step_storeBA rfl 30 (.tmp 16) (.tmp 69) rfl tb (by rfl) [.slice A5 N.length c5, .slice A6 L.length c6] (by rfl) [.slice none 0 0, .slice none 0 0] HH.out.tbl rfl size2_table (fun v hv => by rcases List.mem_cons.1 hv with rfl | hv; rfl; rw [List.mem_singleton.1 hv]; rfl) ?_
        intro W8 hb8 hg8
        have HT7 := Lib.hid hb8
        have HB9 := Lib.hid (HH.out.bel.grown hg8 HH.out.bel.size (fun j hj => by cases hj; exact HH.out.low))
        have HO5 := Lib.hid (HH.out.nm.kept hg8 (.inr fun e => HH.out.neN e))
        have HO6 := Lib.hid (HH.out.sl.kept hg8 (.inr fun e => HH.out.neS e))
        clear hb8 hg8
        refine hK.out _ _ HB9.out (fun hHeld => ?_)
        clear hK K
        refine tk 10 17 (.int .i64 0) rfl hHeld ?_
        simp only [Act.put, sA, sZ, sS]
        refine wpAnyH_done (by kernel_rfl) ?_ _
        clear hHeld
        have E5 := Lib.hid (HB8.out.trans (HB9.out.mono HB8.out.size))
        have HT5' := Lib.hid (Blk_10.below HT5.out (Blk_10.lt HT5.out) E5.out)
        have HT6' := Lib.hid (Blk_10.below HT6.out (Blk_10.lt HT6.out) HB9.out)
        have HNL : Hid (N.length ≤ 30) := Lib.hid (by rw [← HN.out, List.length_map]; exact HRL.out)
        have HLL : Hid (L.length ≤ 65537) := Lib.hid (by rw [← HL.out]; exact slotL_most key HSZ.out R)
        have HS1 : Hid (OwnG eN W8 X4.heap.size (.slice A1 N.length c1) N) := Lib.hid (by have h9 : OwnG eN Z5 X4.heap.size (.slice A1 N.length c1) N := by { rw [← HZ5.out]; exact HO1.out.alloc _ }; exact h9.below E5.out)
        have HS2 : Hid (OwnG eZ W8 X4.heap.size (.slice A2 L.length c2) L) := Lib.hid (by have h9 : OwnG eZ Z5 X4.heap.size (.slice A2 L.length c2) L := by { rw [← HZ5.out]; exact HO2.out.alloc _ }; exact h9.below E5.out)
        have HS3 : Hid (OwnG eN W8 Z5.heap.size (.slice A3 N.length c3) N) := Lib.hid (by have h9 : OwnG eN Z6 Z5.heap.size (.slice A3 N.length c3) N := by { rw [← HZ6.out]; exact HO3.out.alloc _ }; exact h9.below HB9.out)
        have HS4 : Hid (OwnG eZ W8 Z5.heap.size (.slice A4 L.length c4) L) := Lib.hid (by have h9 : OwnG eZ Z6 Z5.heap.size (.slice A4 L.length c4) L := by { rw [← HZ6.out]; exact HO4.out.alloc _ }; exact h9.below HB9.out)
        have Q1 := Lib.hid (same_tbl HNL.out HLL.out HS1.out HS2.out HS3.out HS4.out)
        have a1 : W8.cell? ⟨W5.heap.size, 0, none⟩ = some (.slice A1 N.length c1) := Blk_10.cell HT5'.out rfl
        have b1 : W8.cell? ⟨W5.heap.size, 1, none⟩ = some (.slice A2 L.length c2) := Blk_10.cell HT5'.out rfl
        have a2 : W8.cell? ⟨W6.heap.size, 0, none⟩ = some (.slice A3 N.length c3) := Blk_10.cell HT6'.out rfl
        have b2 : W8.cell? ⟨W6.heap.size, 1, none⟩ = some (.slice A4 L.length c4) := Blk_10.cell HT6'.out rfl
        go_wp2_with (first
          | ((with_reducible refine Q1.out.mono ?_); rintro e W9 ⟨rfl, hb⟩; clear a1 b1 a2 b2; have HB10 := Lib.hid hb; have HT5'' := Lib.hid (Blk_10.below HT5'.out (Blk_10.lt HT5'.out) hb); have HT7' := Lib.hid (Blk_10.below HT7.out (Blk_10.lt HT7.out) hb); have Q2 := Lib.hid (same_tbl HNL.out HLL.out (HS1.out.below hb) (HS2.out.below hb) (HO5.out.below hb) (HO6.out.below hb)); clear hb; have a3 : W9.cell? ⟨W5.heap.size, 0, none⟩ = some (.slice A1 N.length c1) := Blk_10.cell HT5''.out rfl; have b3 : W9.cell? ⟨W5.heap.size, 1, none⟩ = some (.slice A2 L.length c2) := Blk_10.cell HT5''.out rfl; have a4 : W9.cell? ⟨tb, 0, none⟩ = some (.slice A5 N.length c5) := Blk_10.cell HT7'.out rfl; have b4 : W9.cell? ⟨tb, 1, none⟩ = some (.slice A6 L.length c6) := Blk_10.cell HT7'.out rfl)
          | ((with_reducible refine Q2.out.mono ?_); rintro e W10 ⟨rfl, hb⟩; have HB11 := Lib.hid (HB10.out.trans (hb.mono HB10.out.size)); clear hb))
        go_ret
        have h8 := D6.out.trans (HB9.out.mono D6.out.size)
        exact ⟨rfl, h8.trans (HB11.out.mono h8.size)⟩
end Go.Proofs.Ytmngagcekhlppaa
