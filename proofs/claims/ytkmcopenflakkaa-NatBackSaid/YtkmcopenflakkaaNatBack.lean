/-
  PROVED HERE: 'NatBackSaid': whatever bytes frame, addresses a and b and numbers m and n are, the Go function NatBack of package wayleavelaw12 returns true, and its arguments read behind the call as they read before. No condition.
-/
import Derived.Test.YtkmcopenflakkaaNSeg
import Derived.Deep.DeepCutAuto
namespace Go.Proofs.Ytkmcopenflakkaa
set_option maxRecDepth 100000
open Go.RowKit Go.Lib Go.ChangeShapes Go.WideShapes Go.ChangeAt

theorem box_aa (w : World) (c0 c1 : List Value) (T0 T1 : TypeId) : ∃ Y : World, (w.alloc (.cells c0.toArray T0)).alloc (.cells c1.toArray T1) = Y ∧ Blk Y T0 w.heap.size c0 ∧ Blk Y T1 (w.heap.size + 1) c1 ∧ Below w.heap.size w Y := by
  refine ⟨_, rfl, (Blk_10.new w _ _).alloc _, ?_, ((Below.refl w.heap.size w).alloc (Nat.le_refl _) _).alloc (by rw [World.size_alloc]; exact Nat.le_succ _) _⟩
  have := Blk_10.new (w.alloc (.cells c0.toArray T0)) T1 c1
  rwa [World.size_alloc] at this
/-- Where a fine frame goes to, may it be rewritten. -/
theorem AtF.own {xs z : List UInt8} {six : Bool} {n : Nt} {p : Nat} {u : Bool} (h : AtF xs z six n p u) : ofB (readK xs).t.s.six (readK xs).t.d = true ∧ 0 ≤ (readK xs).t.dp ∧ (readK xs).t.dp ≤ 65535 := by
  have hd : (readK xs).t.dp = (wat (segN (z.drop p) n) 2 : Nat) := by rw [← h.r, h.f.read]
  have hw := wat_lt (segN (z.drop p) n) 2
  refine ⟨?_, by omega, by omega⟩
  obtain ⟨_, _, _, e4, e5, _, _, e8, _⟩ := h.en
  have hb := h.f.bnd
  rw [e4, e8]
  cases six with
  | true =>
    unfold ofB
    rw [hb.d6]
    rfl
  | false =>
    obtain ⟨_, hn⟩ := h.f.v4
    have hdd : n.d = adOf (z.drop p) 16 := by rw [hn]
    have hl := hb.d
    unfold ofB
    rw [hb.d6]
    show (true && (false || shortB n.d)) = true
    rw [(short_eq hl).2]
    · rfl
    · rw [hdd] at hl ⊢
      obtain ⟨T, hT⟩ : ∃ T, ((z.drop p).drop 16).take 4 = T := ⟨_, rfl⟩
      have hl2 : (((z.drop p).drop 16).take 4 ++ z12).length = 16 := hl
      show (⟨false, ((z.drop p).drop 16).take 4 ++ z12⟩ : Ad) = ⟨false, (((z.drop p).drop 16).take 4 ++ z12).take 4 ++ z12⟩
      rw [hT] at hl2 ⊢
      rw [List.length_append] at hl2
      have h12 : z12.length = 12 := rfl
      have h4 : T.length = 4 := by omega
      rw [show (T ++ z12).take 4 = T by rw [List.take_append_of_le_length (by omega), List.take_of_length_le (by omega)]]
theorem may_turn {k : Pk} (a b : Ad) (m n : Int) : mayN (pkN k a m true) b n = mayN k b n := rfl
set_option maxHeartbeats 40000000 in
theorem natBack_walk (A : Option Addr) (len cap : Nat) (xs : List UInt8) (hca : len ≤ cap) (hma : cap ≤ maxLen) (a : Ad) (ha : a.b.length = 16) (m : Int) (_ : -9223372036854775808 ≤ m) (_ : m ≤ 9223372036854775807) (b : Ad) (hb : b.b.length = 16) (n : Int) (_ : -9223372036854775808 ≤ n) (_ : n ≤ 9223372036854775807) (w : World) (hI : Rd w w.heap.size A len xs) :
    Calls Try.prog 7 #[.slice A len cap, adC a, .int .i64 m, adC b, .int .i64 n] w fun e w' => e = .returned (.bool true) ∧ Below w.heap.size w w' := by
  have hml : len ≤ 9223372036854775807 := by unfold maxLen at hma; omega
  obtain ⟨Y, hY, hq, hr, hbel⟩ := box_aa w (adL a) (adL b) 25 25
  have HXL := Lib.hid hI.len
  have HRX := Lib.hid (fun W (hB : Below w.heap.size w W) => (hI.below hB).more hB.size)
  have HCA := Lib.hid hca
  have HMA := Lib.hid hma
  have HAL := Lib.hid ha
  have HBL := Lib.hid hb
  have E1 := Lib.hid (show adC a = .agg (adL a).toArray from rfl)
  have E2 := Lib.hid (show adC b = .agg (adL b).toArray from rfl)
  obtain ⟨C1, hC1⟩ : ∃ C, (adL a).toArray = C := ⟨_, rfl⟩
  obtain ⟨C2, hC2⟩ : ∃ C, (adL b).toArray = C := ⟨_, rfl⟩
  rw [E1.out, E2.out]
  rw [hC1, hC2] at hY ⊢
  rw [hC1] at E1
  rw [hC2] at E2
  have HC1 := Lib.hid hC1
  have HC2 := Lib.hid hC2
  have HY := Lib.hid hY
  have HQ := Lib.hid hq
  have HR := Lib.hid hr
  have HB := Lib.hid hbel
  clear hI hY hq hr hbel hC1 hC2 ha hb hca hma
  go_enter Try.func7, Try.ntmps7
  go_wp2_with fail
  rw [HY.out]
  refine (awake_any _).mono ?_
  rintro e w1 ⟨rfl, hb1⟩
  have HB1 := Lib.hid (HB.out.trans (hb1.mono HB.out.size))
  have HQ1 := Lib.hid (HQ.out.below HQ.out.lt hb1)
  have HR1 := Lib.hid (HR.out.below HR.out.lt hb1)
  clear hb1
  by_cases hn : 3000 < len
  · have hn' : (3000 : Int) < (len : Int) := by omega
    have hnb : decide ((3000 : Int) < (len : Int)) = true := decide_eq_true hn'
    clear hn
    go_wp2_with fail
    refine (awake_any _).mono ?_
    rintro e w2 ⟨rfl, hb2⟩
    go_wp2_with fail
    go_ret
    exact ⟨rfl, HB1.out.trans (hb2.mono HB1.out.size)⟩
  · have hn' : ¬ (3000 : Int) < (len : Int) := by omega
    have hnb : decide ((3000 : Int) < (len : Int)) = false := decide_eq_false hn'
    have HN1 := Lib.hid (show len ≤ 3000 by omega)
    clear hn
    have HRD := Lib.hid (kread_any A len cap xs (by have := HN1.out; omega) HCA.out w1 (HRX.out w1 HB1.out))
    have HOK := Lib.hid (readK_ok xs)
    obtain ⟨k, hk⟩ : ∃ k, readK xs = k := ⟨_, rfl⟩
    have HK := Lib.hid hk
    rw [hk] at HRD HOK
    clear hk
    go_wp2_with fail
    refine HRD.out.mono ?_
    rintro e w2 ⟨rfl, hb2⟩
    have HB2 := Lib.hid (HB1.out.trans (hb2.mono HB1.out.size))
    have HQ2 := Lib.hid (HQ1.out.below HQ1.out.lt hb2)
    have HR2 := Lib.hid (HR1.out.below HR1.out.lt hb2)
    clear hb2 hn' hnb
    go_wp2_with (((with_reducible show wpList _ _ _ (⟨none, .store 37 (.tmp 11) _, _, _, _, _⟩ :: _) _ _); refine wpList_storePk rfl (.tmp 11) _ rfl (by rfl) (k) HOK.out (by rfl) (by rfl) ?_; intro w3 hp_ hb_; have HP3 := Lib.hid hp_; have HB3 := Lib.hid (HB2.out.trans (hb_.mono HB2.out.size)); have HQ3 := Lib.hid (HQ2.out.below HQ2.out.lt hb_); have HR3 := Lib.hid (HR2.out.below HR2.out.lt hb_); clear hp_ hb_; generalize w2.heap.size = G at HP3 ⊢))
    have HOF := Lib.hid (fun W => rof_any HAL.out k.t.s.six W)
    have HOG := Lib.hid (fun W => rof_any HBL.out k.t.s.six W)
    rw [E1.out] at HOF
    rw [E2.out] at HOG
    have HKC := Lib.hid (fun W (h : Below w3.heap.size w3 W) => show W.cell? ⟨G, 0, none⟩ = some (.int .i64 k.kind) ∧ W.cell? ⟨G, 1, none⟩ = some (.bool k.t.s.six) from ⟨(pk_cells (HP3.out.below HP3.out.lt h) HOK.out).1, Blk_10.cell (HP3.out.below HP3.out.lt h) rfl⟩)
    obtain ⟨kd, hkd⟩ : ∃ z, k.kind = z := ⟨_, rfl⟩
    obtain ⟨sx, hsx⟩ : ∃ s, k.t.s.six = s := ⟨_, rfl⟩
    rw [hsx] at HOF HOG
    rw [hkd, hsx] at HKC
    have HKD := Lib.hid hkd
    have HSX := Lib.hid hsx
    clear hkd hsx
    by_cases h0 : kd = 0
    rotate_left
    · have b0 : (kd != 0) = true := by simp [h0]
      clear h0
      go_wp2_with fail
      refine wp_region_held_drew (S := fun W => Below w3.heap.size w3 W) (by kernel_rfl) ((Below.refl _ _).drew) (fun hHeld => ?_)
      obtain ⟨X, hX⟩ : ∃ X, w3.drew = X := ⟨_, rfl⟩
      rw [hX] at hHeld ⊢
      clear hX
      refine tk 0 32 (.pointer (some ⟨G, 0, none⟩)) rfl hHeld ?_
      simp only [Act.put, sA, sZ, sS]
      refine tkY 1 33 (.int .i64 kd) rfl (Or.inl ⟨by rfl, fun W hW => by have hc := (HKC.out W hW).1; go_simp⟩) hHeld ?_
      simp only [Act.put, sA, sZ, sS]
      refine tk 2 34 (.bool true) rfl hHeld ?_
      simp only [Act.put, sA, sZ, sS]
      refine tk 3 35 (.bool true) rfl hHeld ?_
      simp only [Act.put, sA, sZ, sS]
      refine tkN 4 36 rfl hHeld ?_
      simp only [Act.put, sA, sZ, sS]
      refine tkN 5 37 rfl hHeld ?_
      simp only [Act.put, sA, sZ, sS]
      refine tkN 6 38 rfl hHeld ?_
      simp only [Act.put, sA, sZ, sS]
      refine tkN 7 39 rfl hHeld ?_
      simp only [Act.put, sA, sZ, sS]
      refine tkN 8 40 rfl hHeld ?_
      simp only [Act.put, sA, sZ, sS]
      refine tkN 9 41 rfl hHeld ?_
      simp only [Act.put, sA, sZ, sS]
      refine tkN 10 42 rfl hHeld ?_
      simp only [Act.put, sA, sZ, sS]
      refine tk 11 43 (.bool true) rfl hHeld ?_
      simp only [Act.put, sA, sZ, sS]
      refine tk 12 44 (.bool true) rfl hHeld ?_
      simp only [Act.put, sA, sZ, sS]
      refine tkN 13 45 rfl hHeld ?_
      simp only [Act.put, sA, sZ, sS]
      refine tkN 14 46 rfl hHeld ?_
      simp only [Act.put, sA, sZ, sS]
      refine tkN 15 47 rfl hHeld ?_
      simp only [Act.put, sA, sZ, sS]
      refine tkN 16 48 rfl hHeld ?_
      simp only [Act.put, sA, sZ, sS]
      refine tkN 17 49 rfl hHeld ?_
      simp only [Act.put, sA, sZ, sS]
      refine tkN 18 50 rfl hHeld ?_
      simp only [Act.put, sA, sZ, sS]
      refine tkN 19 51 rfl hHeld ?_
      simp only [Act.put, sA, sZ, sS]
      refine tk 20 52 (.bool true) rfl hHeld ?_
      simp only [Act.put, sA, sZ, sS]
      refine tk 21 53 (.bool true) rfl hHeld ?_
      simp only [Act.put, sA, sZ, sS]
      refine tkN 22 54 rfl hHeld ?_
      simp only [Act.put, sA, sZ, sS]
      refine tkN 23 55 rfl hHeld ?_
      simp only [Act.put, sA, sZ, sS]
      refine tk 24 56 (.bool true) rfl hHeld ?_
      simp only [Act.put, sA, sZ, sS]
      refine tk 25 57 (.bool true) rfl hHeld ?_
      simp only [Act.put, sA, sZ, sS]
      refine tkN 26 58 rfl hHeld ?_
      simp only [Act.put, sA, sZ, sS]
      refine tkN 27 59 rfl hHeld ?_
      simp only [Act.put, sA, sZ, sS]
      refine tk 28 60 (.bool true) rfl hHeld ?_
      simp only [Act.put, sA, sZ, sS]
      refine tk 29 61 (.bool true) rfl hHeld ?_
      simp only [Act.put, sA, sZ, sS]
      refine tkN 30 62 rfl hHeld ?_
      simp only [Act.put, sA, sZ, sS]
      refine tkN 31 63 rfl hHeld ?_
      simp only [Act.put, sA, sZ, sS]
      refine tk 32 64 (.bool true) rfl hHeld ?_
      simp only [Act.put, sA, sZ, sS]
      refine tk 33 65 (.bool true) rfl hHeld ?_
      simp only [Act.put, sA, sZ, sS]
      refine tkN 34 66 rfl hHeld ?_
      simp only [Act.put, sA, sZ, sS]
      refine tkN 35 67 rfl hHeld ?_
      simp only [Act.put, sA, sZ, sS]
      refine tk 36 68 (.bool true) rfl hHeld ?_
      simp only [Act.put, sA, sZ, sS]
      refine tk 37 69 (.bool true) rfl hHeld ?_
      simp only [Act.put, sA, sZ, sS]
      refine tkN 38 70 rfl hHeld ?_
      simp only [Act.put, sA, sZ, sS]
      refine tkN 39 71 rfl hHeld ?_
      simp only [Act.put, sA, sZ, sS]
      refine tkN 40 72 rfl hHeld ?_
      simp only [Act.put, sA, sZ, sS]
      refine tkN 41 73 rfl hHeld ?_
      simp only [Act.put, sA, sZ, sS]
      refine tkN 42 74 rfl hHeld ?_
      simp only [Act.put, sA, sZ, sS]
      refine tkN 43 75 rfl hHeld ?_
      simp only [Act.put, sA, sZ, sS]
      refine tkN 44 76 rfl hHeld ?_
      simp only [Act.put, sA, sZ, sS]
      refine tkN 45 77 rfl hHeld ?_
      simp only [Act.put, sA, sZ, sS]
      refine tkN 46 78 rfl hHeld ?_
      simp only [Act.put, sA, sZ, sS]
      refine tkN 47 79 rfl hHeld ?_
      simp only [Act.put, sA, sZ, sS]
      refine tkN 48 80 rfl hHeld ?_
      simp only [Act.put, sA, sZ, sS]
      refine tkN 49 81 rfl hHeld ?_
      simp only [Act.put, sA, sZ, sS]
      refine tkN 50 82 rfl hHeld ?_
      simp only [Act.put, sA, sZ, sS]
      refine tkN 51 83 rfl hHeld ?_
      simp only [Act.put, sA, sZ, sS]
      refine tkN 52 84 rfl hHeld ?_
      simp only [Act.put, sA, sZ, sS]
      refine tkN 53 85 rfl hHeld ?_
      simp only [Act.put, sA, sZ, sS]
      refine tkN 54 86 rfl hHeld ?_
      simp only [Act.put, sA, sZ, sS]
      refine tk 55 87 (.bool true) rfl hHeld ?_
      simp only [Act.put, sA, sZ, sS]
      refine wpAnyH_done (by kernel_rfl) ?_ _
      go_wp2_with fail
      go_ret
      exact ⟨rfl, HB3.out.trans (hHeld.mono HB3.out.size)⟩
    subst h0
    cases hoa : ofB sx a with
    | false =>
      rw [hoa] at HOF
      clear hoa
      go_wp2_with fail
      refine wp_region_held_drew (S := fun W => Below w3.heap.size w3 W) (by kernel_rfl) ((Below.refl _ _).drew) (fun hHeld => ?_)
      obtain ⟨X, hX⟩ : ∃ X, w3.drew = X := ⟨_, rfl⟩
      rw [hX] at hHeld ⊢
      clear hX
      refine tk 0 32 (.pointer (some ⟨G, 0, none⟩)) rfl hHeld ?_
      simp only [Act.put, sA, sZ, sS]
      refine tkY 1 33 (.int .i64 0) rfl (Or.inl ⟨by rfl, fun W hW => by have hc := (HKC.out W hW).1; go_simp⟩) hHeld ?_
      simp only [Act.put, sA, sZ, sS]
      refine tk 2 34 (.bool false) rfl hHeld ?_
      simp only [Act.put, sA, sZ, sS]
      refine tk 3 35 (.bool false) rfl hHeld ?_
      simp only [Act.put, sA, sZ, sS]
      refine tk 4 36 (.pointer (some ⟨G, 1, none⟩)) rfl hHeld ?_
      simp only [Act.put, sA, sZ, sS]
      refine tk 5 37 (.pointer (some ⟨G, 1, none⟩)) rfl hHeld ?_
      simp only [Act.put, sA, sZ, sS]
      refine tk 6 38 (.pointer (some ⟨G, 1, none⟩)) rfl hHeld ?_
      simp only [Act.put, sA, sZ, sS]
      refine tkY 7 39 (.bool sx) rfl (Or.inl ⟨by rfl, fun W hW => by have hc := (HKC.out W hW).2; go_simp⟩) hHeld ?_
      simp only [Act.put, sA, sZ, sS]
      refine tkY 8 40 (.agg C1) rfl (HC1.out ▸ yieldsIf_load_mid (by rfl) 25 _ rfl (w.heap.size) 0 rfl (adL a) _ (fun W hW => Blk_10.range (HQ3.out.below HQ3.out.lt hW)) Try.underlying25 rfl (sizeAdL HAL.out)) hHeld ?_
      simp only [Act.put, sA, sZ, sS]
      refine wpAnyH_ready (rs := [9]) (by kernel_rfl) (by simp) (AllReadyH.cons (o := ⟨some 41, _, _, _, _, _⟩) rfl (fun K hK => ?_) AllReadyH.nil)
      rw [if_pos (by rfl)]
      go_simp
      refine (HOF.out _).mono ?_
      rintro e wf ⟨rfl, hbf⟩
      refine hK.out _ _ (hHeld.trans (hbf.mono hHeld.size)) (fun hHeld => ?_)
      clear hK K hbf
      refine tk 10 42 (.bool true) rfl hHeld ?_
      simp only [Act.put, sA, sZ, sS]
      refine tk 11 43 (.bool true) rfl hHeld ?_
      simp only [Act.put, sA, sZ, sS]
      refine tk 12 44 (.bool true) rfl hHeld ?_
      simp only [Act.put, sA, sZ, sS]
      refine tkN 13 45 rfl hHeld ?_
      simp only [Act.put, sA, sZ, sS]
      refine tkN 14 46 rfl hHeld ?_
      simp only [Act.put, sA, sZ, sS]
      refine tkN 15 47 rfl hHeld ?_
      simp only [Act.put, sA, sZ, sS]
      refine tkN 16 48 rfl hHeld ?_
      simp only [Act.put, sA, sZ, sS]
      refine tkN 17 49 rfl hHeld ?_
      simp only [Act.put, sA, sZ, sS]
      refine tkN 18 50 rfl hHeld ?_
      simp only [Act.put, sA, sZ, sS]
      refine tkN 19 51 rfl hHeld ?_
      simp only [Act.put, sA, sZ, sS]
      refine tk 20 52 (.bool true) rfl hHeld ?_
      simp only [Act.put, sA, sZ, sS]
      refine tk 21 53 (.bool true) rfl hHeld ?_
      simp only [Act.put, sA, sZ, sS]
      refine tkN 22 54 rfl hHeld ?_
      simp only [Act.put, sA, sZ, sS]
      refine tkN 23 55 rfl hHeld ?_
      simp only [Act.put, sA, sZ, sS]
      refine tk 24 56 (.bool true) rfl hHeld ?_
      simp only [Act.put, sA, sZ, sS]
      refine tk 25 57 (.bool true) rfl hHeld ?_
      simp only [Act.put, sA, sZ, sS]
      refine tkN 26 58 rfl hHeld ?_
      simp only [Act.put, sA, sZ, sS]
      refine tkN 27 59 rfl hHeld ?_
      simp only [Act.put, sA, sZ, sS]
      refine tk 28 60 (.bool true) rfl hHeld ?_
      simp only [Act.put, sA, sZ, sS]
      refine tk 29 61 (.bool true) rfl hHeld ?_
      simp only [Act.put, sA, sZ, sS]
      refine tkN 30 62 rfl hHeld ?_
      simp only [Act.put, sA, sZ, sS]
      refine tkN 31 63 rfl hHeld ?_
      simp only [Act.put, sA, sZ, sS]
      refine tk 32 64 (.bool true) rfl hHeld ?_
      simp only [Act.put, sA, sZ, sS]
      refine tk 33 65 (.bool true) rfl hHeld ?_
      simp only [Act.put, sA, sZ, sS]
      refine tkN 34 66 rfl hHeld ?_
      simp only [Act.put, sA, sZ, sS]
      refine tkN 35 67 rfl hHeld ?_
      simp only [Act.put, sA, sZ, sS]
      refine tk 36 68 (.bool true) rfl hHeld ?_
      simp only [Act.put, sA, sZ, sS]
      refine tk 37 69 (.bool true) rfl hHeld ?_
      simp only [Act.put, sA, sZ, sS]
      refine tkN 38 70 rfl hHeld ?_
      simp only [Act.put, sA, sZ, sS]
      refine tkN 39 71 rfl hHeld ?_
      simp only [Act.put, sA, sZ, sS]
      refine tkN 40 72 rfl hHeld ?_
      simp only [Act.put, sA, sZ, sS]
      refine tkN 41 73 rfl hHeld ?_
      simp only [Act.put, sA, sZ, sS]
      refine tkN 42 74 rfl hHeld ?_
      simp only [Act.put, sA, sZ, sS]
      refine tkN 43 75 rfl hHeld ?_
      simp only [Act.put, sA, sZ, sS]
      refine tkN 44 76 rfl hHeld ?_
      simp only [Act.put, sA, sZ, sS]
      refine tkN 45 77 rfl hHeld ?_
      simp only [Act.put, sA, sZ, sS]
      refine tkN 46 78 rfl hHeld ?_
      simp only [Act.put, sA, sZ, sS]
      refine tkN 47 79 rfl hHeld ?_
      simp only [Act.put, sA, sZ, sS]
      refine tkN 48 80 rfl hHeld ?_
      simp only [Act.put, sA, sZ, sS]
      refine tkN 49 81 rfl hHeld ?_
      simp only [Act.put, sA, sZ, sS]
      refine tkN 50 82 rfl hHeld ?_
      simp only [Act.put, sA, sZ, sS]
      refine tkN 51 83 rfl hHeld ?_
      simp only [Act.put, sA, sZ, sS]
      refine tkN 52 84 rfl hHeld ?_
      simp only [Act.put, sA, sZ, sS]
      refine tkN 53 85 rfl hHeld ?_
      simp only [Act.put, sA, sZ, sS]
      refine tkN 54 86 rfl hHeld ?_
      simp only [Act.put, sA, sZ, sS]
      refine tk 55 87 (.bool true) rfl hHeld ?_
      simp only [Act.put, sA, sZ, sS]
      refine wpAnyH_done (by kernel_rfl) ?_ _
      go_wp2_with fail
      go_ret
      exact ⟨rfl, HB3.out.trans (hHeld.mono HB3.out.size)⟩
    | true =>
    cases hob : ofB sx b with
    | false =>
      rw [hoa] at HOF
      rw [hob] at HOG
      clear hoa hob
      go_wp2_with fail
      refine wp_region_held_drew (S := fun W => Below w3.heap.size w3 W) (by kernel_rfl) ((Below.refl _ _).drew) (fun hHeld => ?_)
      obtain ⟨X, hX⟩ : ∃ X, w3.drew = X := ⟨_, rfl⟩
      rw [hX] at hHeld ⊢
      clear hX
      refine tk 0 32 (.pointer (some ⟨G, 0, none⟩)) rfl hHeld ?_
      simp only [Act.put, sA, sZ, sS]
      refine tkY 1 33 (.int .i64 0) rfl (Or.inl ⟨by rfl, fun W hW => by have hc := (HKC.out W hW).1; go_simp⟩) hHeld ?_
      simp only [Act.put, sA, sZ, sS]
      refine tk 2 34 (.bool false) rfl hHeld ?_
      simp only [Act.put, sA, sZ, sS]
      refine tk 3 35 (.bool false) rfl hHeld ?_
      simp only [Act.put, sA, sZ, sS]
      refine tk 4 36 (.pointer (some ⟨G, 1, none⟩)) rfl hHeld ?_
      simp only [Act.put, sA, sZ, sS]
      refine tk 5 37 (.pointer (some ⟨G, 1, none⟩)) rfl hHeld ?_
      simp only [Act.put, sA, sZ, sS]
      refine tk 6 38 (.pointer (some ⟨G, 1, none⟩)) rfl hHeld ?_
      simp only [Act.put, sA, sZ, sS]
      refine tkY 7 39 (.bool sx) rfl (Or.inl ⟨by rfl, fun W hW => by have hc := (HKC.out W hW).2; go_simp⟩) hHeld ?_
      simp only [Act.put, sA, sZ, sS]
      refine tkY 8 40 (.agg C1) rfl (HC1.out ▸ yieldsIf_load_mid (by rfl) 25 _ rfl (w.heap.size) 0 rfl (adL a) _ (fun W hW => Blk_10.range (HQ3.out.below HQ3.out.lt hW)) Try.underlying25 rfl (sizeAdL HAL.out)) hHeld ?_
      simp only [Act.put, sA, sZ, sS]
      refine wpAnyH_ready (rs := [9]) (by kernel_rfl) (by simp) (AllReadyH.cons (o := ⟨some 41, _, _, _, _, _⟩) rfl (fun K hK => ?_) AllReadyH.nil)
      rw [if_pos (by rfl)]
      go_simp
      refine (HOF.out _).mono ?_
      rintro e wf ⟨rfl, hbf⟩
      refine hK.out _ _ (hHeld.trans (hbf.mono hHeld.size)) (fun hHeld => ?_)
      clear hK K hbf
      refine tk 10 42 (.bool false) rfl hHeld ?_
      simp only [Act.put, sA, sZ, sS]
      refine tk 11 43 (.bool false) rfl hHeld ?_
      simp only [Act.put, sA, sZ, sS]
      refine tk 12 44 (.bool false) rfl hHeld ?_
      simp only [Act.put, sA, sZ, sS]
      refine tk 13 45 (.pointer (some ⟨G, 1, none⟩)) rfl hHeld ?_
      simp only [Act.put, sA, sZ, sS]
      refine tk 14 46 (.pointer (some ⟨G, 1, none⟩)) rfl hHeld ?_
      simp only [Act.put, sA, sZ, sS]
      refine tk 15 47 (.pointer (some ⟨G, 1, none⟩)) rfl hHeld ?_
      simp only [Act.put, sA, sZ, sS]
      refine tkY 16 48 (.bool sx) rfl (Or.inl ⟨by rfl, fun W hW => by have hc := (HKC.out W hW).2; go_simp⟩) hHeld ?_
      simp only [Act.put, sA, sZ, sS]
      refine tkY 17 49 (.agg C2) rfl (HC2.out ▸ yieldsIf_load_mid (by rfl) 25 _ rfl (w.heap.size + 1) 0 rfl (adL b) _ (fun W hW => Blk_10.range (HR3.out.below HR3.out.lt hW)) Try.underlying25 rfl (sizeAdL HBL.out)) hHeld ?_
      simp only [Act.put, sA, sZ, sS]
      refine wpAnyH_ready (rs := [18]) (by kernel_rfl) (by simp) (AllReadyH.cons (o := ⟨some 50, _, _, _, _, _⟩) rfl (fun K hK => ?_) AllReadyH.nil)
      rw [if_pos (by rfl)]
      go_simp
      refine (HOG.out _).mono ?_
      rintro e wf ⟨rfl, hbf⟩
      refine hK.out _ _ (hHeld.trans (hbf.mono hHeld.size)) (fun hHeld => ?_)
      clear hK K hbf
      refine tk 19 51 (.bool true) rfl hHeld ?_
      simp only [Act.put, sA, sZ, sS]
      refine tk 20 52 (.bool true) rfl hHeld ?_
      simp only [Act.put, sA, sZ, sS]
      refine tk 21 53 (.bool true) rfl hHeld ?_
      simp only [Act.put, sA, sZ, sS]
      refine tkN 22 54 rfl hHeld ?_
      simp only [Act.put, sA, sZ, sS]
      refine tkN 23 55 rfl hHeld ?_
      simp only [Act.put, sA, sZ, sS]
      refine tk 24 56 (.bool true) rfl hHeld ?_
      simp only [Act.put, sA, sZ, sS]
      refine tk 25 57 (.bool true) rfl hHeld ?_
      simp only [Act.put, sA, sZ, sS]
      refine tkN 26 58 rfl hHeld ?_
      simp only [Act.put, sA, sZ, sS]
      refine tkN 27 59 rfl hHeld ?_
      simp only [Act.put, sA, sZ, sS]
      refine tk 28 60 (.bool true) rfl hHeld ?_
      simp only [Act.put, sA, sZ, sS]
      refine tk 29 61 (.bool true) rfl hHeld ?_
      simp only [Act.put, sA, sZ, sS]
      refine tkN 30 62 rfl hHeld ?_
      simp only [Act.put, sA, sZ, sS]
      refine tkN 31 63 rfl hHeld ?_
      simp only [Act.put, sA, sZ, sS]
      refine tk 32 64 (.bool true) rfl hHeld ?_
      simp only [Act.put, sA, sZ, sS]
      refine tk 33 65 (.bool true) rfl hHeld ?_
      simp only [Act.put, sA, sZ, sS]
      refine tkN 34 66 rfl hHeld ?_
      simp only [Act.put, sA, sZ, sS]
      refine tkN 35 67 rfl hHeld ?_
      simp only [Act.put, sA, sZ, sS]
      refine tk 36 68 (.bool true) rfl hHeld ?_
      simp only [Act.put, sA, sZ, sS]
      refine tk 37 69 (.bool true) rfl hHeld ?_
      simp only [Act.put, sA, sZ, sS]
      refine tkN 38 70 rfl hHeld ?_
      simp only [Act.put, sA, sZ, sS]
      refine tkN 39 71 rfl hHeld ?_
      simp only [Act.put, sA, sZ, sS]
      refine tkN 40 72 rfl hHeld ?_
      simp only [Act.put, sA, sZ, sS]
      refine tkN 41 73 rfl hHeld ?_
      simp only [Act.put, sA, sZ, sS]
      refine tkN 42 74 rfl hHeld ?_
      simp only [Act.put, sA, sZ, sS]
      refine tkN 43 75 rfl hHeld ?_
      simp only [Act.put, sA, sZ, sS]
      refine tkN 44 76 rfl hHeld ?_
      simp only [Act.put, sA, sZ, sS]
      refine tkN 45 77 rfl hHeld ?_
      simp only [Act.put, sA, sZ, sS]
      refine tkN 46 78 rfl hHeld ?_
      simp only [Act.put, sA, sZ, sS]
      refine tkN 47 79 rfl hHeld ?_
      simp only [Act.put, sA, sZ, sS]
      refine tkN 48 80 rfl hHeld ?_
      simp only [Act.put, sA, sZ, sS]
      refine tkN 49 81 rfl hHeld ?_
      simp only [Act.put, sA, sZ, sS]
      refine tkN 50 82 rfl hHeld ?_
      simp only [Act.put, sA, sZ, sS]
      refine tkN 51 83 rfl hHeld ?_
      simp only [Act.put, sA, sZ, sS]
      refine tkN 52 84 rfl hHeld ?_
      simp only [Act.put, sA, sZ, sS]
      refine tkN 53 85 rfl hHeld ?_
      simp only [Act.put, sA, sZ, sS]
      refine tkN 54 86 rfl hHeld ?_
      simp only [Act.put, sA, sZ, sS]
      refine tk 55 87 (.bool true) rfl hHeld ?_
      simp only [Act.put, sA, sZ, sS]
      refine wpAnyH_done (by kernel_rfl) ?_ _
      go_wp2_with fail
      go_ret
      exact ⟨rfl, HB3.out.trans (hHeld.mono HB3.out.size)⟩
    | true =>
    have HOA := Lib.hid hoa
    have HOB := Lib.hid hob
    rw [hoa] at HOF
    rw [hob] at HOG
    clear hoa hob
    by_cases h4 : m < 0
    · have b4 : decide (m < 0) = true := decide_eq_true h4
      go_wp2_with fail
      refine wp_region_held_drew (S := fun W => Below w3.heap.size w3 W) (by kernel_rfl) ((Below.refl _ _).drew) (fun hHeld => ?_)
      obtain ⟨X, hX⟩ : ∃ X, w3.drew = X := ⟨_, rfl⟩
      rw [hX] at hHeld ⊢
      clear hX
      refine tk 0 32 (.pointer (some ⟨G, 0, none⟩)) rfl hHeld ?_
      simp only [Act.put, sA, sZ, sS]
      refine tkY 1 33 (.int .i64 0) rfl (Or.inl ⟨by rfl, fun W hW => by have hc := (HKC.out W hW).1; go_simp⟩) hHeld ?_
      simp only [Act.put, sA, sZ, sS]
      refine tk 2 34 (.bool false) rfl hHeld ?_
      simp only [Act.put, sA, sZ, sS]
      refine tk 3 35 (.bool false) rfl hHeld ?_
      simp only [Act.put, sA, sZ, sS]
      refine tk 4 36 (.pointer (some ⟨G, 1, none⟩)) rfl hHeld ?_
      simp only [Act.put, sA, sZ, sS]
      refine tk 5 37 (.pointer (some ⟨G, 1, none⟩)) rfl hHeld ?_
      simp only [Act.put, sA, sZ, sS]
      refine tk 6 38 (.pointer (some ⟨G, 1, none⟩)) rfl hHeld ?_
      simp only [Act.put, sA, sZ, sS]
      refine tkY 7 39 (.bool sx) rfl (Or.inl ⟨by rfl, fun W hW => by have hc := (HKC.out W hW).2; go_simp⟩) hHeld ?_
      simp only [Act.put, sA, sZ, sS]
      refine tkY 8 40 (.agg C1) rfl (HC1.out ▸ yieldsIf_load_mid (by rfl) 25 _ rfl (w.heap.size) 0 rfl (adL a) _ (fun W hW => Blk_10.range (HQ3.out.below HQ3.out.lt hW)) Try.underlying25 rfl (sizeAdL HAL.out)) hHeld ?_
      simp only [Act.put, sA, sZ, sS]
      refine wpAnyH_ready (rs := [9]) (by kernel_rfl) (by simp) (AllReadyH.cons (o := ⟨some 41, _, _, _, _, _⟩) rfl (fun K hK => ?_) AllReadyH.nil)
      rw [if_pos (by rfl)]
      go_simp
      refine (HOF.out _).mono ?_
      rintro e wf ⟨rfl, hbf⟩
      refine hK.out _ _ (hHeld.trans (hbf.mono hHeld.size)) (fun hHeld => ?_)
      clear hK K hbf
      refine tk 10 42 (.bool false) rfl hHeld ?_
      simp only [Act.put, sA, sZ, sS]
      refine tk 11 43 (.bool false) rfl hHeld ?_
      simp only [Act.put, sA, sZ, sS]
      refine tk 12 44 (.bool false) rfl hHeld ?_
      simp only [Act.put, sA, sZ, sS]
      refine tk 13 45 (.pointer (some ⟨G, 1, none⟩)) rfl hHeld ?_
      simp only [Act.put, sA, sZ, sS]
      refine tk 14 46 (.pointer (some ⟨G, 1, none⟩)) rfl hHeld ?_
      simp only [Act.put, sA, sZ, sS]
      refine tk 15 47 (.pointer (some ⟨G, 1, none⟩)) rfl hHeld ?_
      simp only [Act.put, sA, sZ, sS]
      refine tkY 16 48 (.bool sx) rfl (Or.inl ⟨by rfl, fun W hW => by have hc := (HKC.out W hW).2; go_simp⟩) hHeld ?_
      simp only [Act.put, sA, sZ, sS]
      refine tkY 17 49 (.agg C2) rfl (HC2.out ▸ yieldsIf_load_mid (by rfl) 25 _ rfl (w.heap.size + 1) 0 rfl (adL b) _ (fun W hW => Blk_10.range (HR3.out.below HR3.out.lt hW)) Try.underlying25 rfl (sizeAdL HBL.out)) hHeld ?_
      simp only [Act.put, sA, sZ, sS]
      refine wpAnyH_ready (rs := [18]) (by kernel_rfl) (by simp) (AllReadyH.cons (o := ⟨some 50, _, _, _, _, _⟩) rfl (fun K hK => ?_) AllReadyH.nil)
      rw [if_pos (by rfl)]
      go_simp
      refine (HOG.out _).mono ?_
      rintro e wf ⟨rfl, hbf⟩
      refine hK.out _ _ (hHeld.trans (hbf.mono hHeld.size)) (fun hHeld => ?_)
      clear hK K hbf
      refine tk 19 51 (.bool false) rfl hHeld ?_
      simp only [Act.put, sA, sZ, sS]
      refine tk 20 52 (.bool false) rfl hHeld ?_
      simp only [Act.put, sA, sZ, sS]
      refine tk 21 53 (.bool false) rfl hHeld ?_
      simp only [Act.put, sA, sZ, sS]
      refine tk 22 54 (.int .i64 m) rfl hHeld ?_
      simp only [Act.put, sA, sZ, sS]
      refine tk 23 55 (.bool true) rfl hHeld ?_
      simp only [Act.put, sA, sZ, sS]
      refine tk 24 56 (.bool true) rfl hHeld ?_
      simp only [Act.put, sA, sZ, sS]
      refine tk 25 57 (.bool true) rfl hHeld ?_
      simp only [Act.put, sA, sZ, sS]
      refine tkN 26 58 rfl hHeld ?_
      simp only [Act.put, sA, sZ, sS]
      refine tkN 27 59 rfl hHeld ?_
      simp only [Act.put, sA, sZ, sS]
      refine tk 28 60 (.bool true) rfl hHeld ?_
      simp only [Act.put, sA, sZ, sS]
      refine tk 29 61 (.bool true) rfl hHeld ?_
      simp only [Act.put, sA, sZ, sS]
      refine tkN 30 62 rfl hHeld ?_
      simp only [Act.put, sA, sZ, sS]
      refine tkN 31 63 rfl hHeld ?_
      simp only [Act.put, sA, sZ, sS]
      refine tk 32 64 (.bool true) rfl hHeld ?_
      simp only [Act.put, sA, sZ, sS]
      refine tk 33 65 (.bool true) rfl hHeld ?_
      simp only [Act.put, sA, sZ, sS]
      refine tkN 34 66 rfl hHeld ?_
      simp only [Act.put, sA, sZ, sS]
      refine tkN 35 67 rfl hHeld ?_
      simp only [Act.put, sA, sZ, sS]
      refine tk 36 68 (.bool true) rfl hHeld ?_
      simp only [Act.put, sA, sZ, sS]
      refine tk 37 69 (.bool true) rfl hHeld ?_
      simp only [Act.put, sA, sZ, sS]
      refine tkN 38 70 rfl hHeld ?_
      simp only [Act.put, sA, sZ, sS]
      refine tkN 39 71 rfl hHeld ?_
      simp only [Act.put, sA, sZ, sS]
      refine tkN 40 72 rfl hHeld ?_
      simp only [Act.put, sA, sZ, sS]
      refine tkN 41 73 rfl hHeld ?_
      simp only [Act.put, sA, sZ, sS]
      refine tkN 42 74 rfl hHeld ?_
      simp only [Act.put, sA, sZ, sS]
      refine tkN 43 75 rfl hHeld ?_
      simp only [Act.put, sA, sZ, sS]
      refine tkN 44 76 rfl hHeld ?_
      simp only [Act.put, sA, sZ, sS]
      refine tkN 45 77 rfl hHeld ?_
      simp only [Act.put, sA, sZ, sS]
      refine tkN 46 78 rfl hHeld ?_
      simp only [Act.put, sA, sZ, sS]
      refine tkN 47 79 rfl hHeld ?_
      simp only [Act.put, sA, sZ, sS]
      refine tkN 48 80 rfl hHeld ?_
      simp only [Act.put, sA, sZ, sS]
      refine tkN 49 81 rfl hHeld ?_
      simp only [Act.put, sA, sZ, sS]
      refine tkN 50 82 rfl hHeld ?_
      simp only [Act.put, sA, sZ, sS]
      refine tkN 51 83 rfl hHeld ?_
      simp only [Act.put, sA, sZ, sS]
      refine tkN 52 84 rfl hHeld ?_
      simp only [Act.put, sA, sZ, sS]
      refine tkN 53 85 rfl hHeld ?_
      simp only [Act.put, sA, sZ, sS]
      refine tkN 54 86 rfl hHeld ?_
      simp only [Act.put, sA, sZ, sS]
      refine tk 55 87 (.bool true) rfl hHeld ?_
      simp only [Act.put, sA, sZ, sS]
      refine wpAnyH_done (by kernel_rfl) ?_ _
      go_wp2_with fail
      go_ret
      exact ⟨rfl, HB3.out.trans (hHeld.mono HB3.out.size)⟩
    have b4 : decide (m < 0) = false := decide_eq_false h4
    by_cases h5 : 65535 < m
    · have b5 : decide (65535 < m) = true := decide_eq_true h5
      go_wp2_with fail
      refine wp_region_held_drew (S := fun W => Below w3.heap.size w3 W) (by kernel_rfl) ((Below.refl _ _).drew) (fun hHeld => ?_)
      obtain ⟨X, hX⟩ : ∃ X, w3.drew = X := ⟨_, rfl⟩
      rw [hX] at hHeld ⊢
      clear hX
      refine tk 0 32 (.pointer (some ⟨G, 0, none⟩)) rfl hHeld ?_
      simp only [Act.put, sA, sZ, sS]
      refine tkY 1 33 (.int .i64 0) rfl (Or.inl ⟨by rfl, fun W hW => by have hc := (HKC.out W hW).1; go_simp⟩) hHeld ?_
      simp only [Act.put, sA, sZ, sS]
      refine tk 2 34 (.bool false) rfl hHeld ?_
      simp only [Act.put, sA, sZ, sS]
      refine tk 3 35 (.bool false) rfl hHeld ?_
      simp only [Act.put, sA, sZ, sS]
      refine tk 4 36 (.pointer (some ⟨G, 1, none⟩)) rfl hHeld ?_
      simp only [Act.put, sA, sZ, sS]
      refine tk 5 37 (.pointer (some ⟨G, 1, none⟩)) rfl hHeld ?_
      simp only [Act.put, sA, sZ, sS]
      refine tk 6 38 (.pointer (some ⟨G, 1, none⟩)) rfl hHeld ?_
      simp only [Act.put, sA, sZ, sS]
      refine tkY 7 39 (.bool sx) rfl (Or.inl ⟨by rfl, fun W hW => by have hc := (HKC.out W hW).2; go_simp⟩) hHeld ?_
      simp only [Act.put, sA, sZ, sS]
      refine tkY 8 40 (.agg C1) rfl (HC1.out ▸ yieldsIf_load_mid (by rfl) 25 _ rfl (w.heap.size) 0 rfl (adL a) _ (fun W hW => Blk_10.range (HQ3.out.below HQ3.out.lt hW)) Try.underlying25 rfl (sizeAdL HAL.out)) hHeld ?_
      simp only [Act.put, sA, sZ, sS]
      refine wpAnyH_ready (rs := [9]) (by kernel_rfl) (by simp) (AllReadyH.cons (o := ⟨some 41, _, _, _, _, _⟩) rfl (fun K hK => ?_) AllReadyH.nil)
      rw [if_pos (by rfl)]
      go_simp
      refine (HOF.out _).mono ?_
      rintro e wf ⟨rfl, hbf⟩
      refine hK.out _ _ (hHeld.trans (hbf.mono hHeld.size)) (fun hHeld => ?_)
      clear hK K hbf
      refine tk 10 42 (.bool false) rfl hHeld ?_
      simp only [Act.put, sA, sZ, sS]
      refine tk 11 43 (.bool false) rfl hHeld ?_
      simp only [Act.put, sA, sZ, sS]
      refine tk 12 44 (.bool false) rfl hHeld ?_
      simp only [Act.put, sA, sZ, sS]
      refine tk 13 45 (.pointer (some ⟨G, 1, none⟩)) rfl hHeld ?_
      simp only [Act.put, sA, sZ, sS]
      refine tk 14 46 (.pointer (some ⟨G, 1, none⟩)) rfl hHeld ?_
      simp only [Act.put, sA, sZ, sS]
      refine tk 15 47 (.pointer (some ⟨G, 1, none⟩)) rfl hHeld ?_
      simp only [Act.put, sA, sZ, sS]
      refine tkY 16 48 (.bool sx) rfl (Or.inl ⟨by rfl, fun W hW => by have hc := (HKC.out W hW).2; go_simp⟩) hHeld ?_
      simp only [Act.put, sA, sZ, sS]
      refine tkY 17 49 (.agg C2) rfl (HC2.out ▸ yieldsIf_load_mid (by rfl) 25 _ rfl (w.heap.size + 1) 0 rfl (adL b) _ (fun W hW => Blk_10.range (HR3.out.below HR3.out.lt hW)) Try.underlying25 rfl (sizeAdL HBL.out)) hHeld ?_
      simp only [Act.put, sA, sZ, sS]
      refine wpAnyH_ready (rs := [18]) (by kernel_rfl) (by simp) (AllReadyH.cons (o := ⟨some 50, _, _, _, _, _⟩) rfl (fun K hK => ?_) AllReadyH.nil)
      rw [if_pos (by rfl)]
      go_simp
      refine (HOG.out _).mono ?_
      rintro e wf ⟨rfl, hbf⟩
      refine hK.out _ _ (hHeld.trans (hbf.mono hHeld.size)) (fun hHeld => ?_)
      clear hK K hbf
      refine tk 19 51 (.bool false) rfl hHeld ?_
      simp only [Act.put, sA, sZ, sS]
      refine tk 20 52 (.bool false) rfl hHeld ?_
      simp only [Act.put, sA, sZ, sS]
      refine tk 21 53 (.bool false) rfl hHeld ?_
      simp only [Act.put, sA, sZ, sS]
      refine tk 22 54 (.int .i64 m) rfl hHeld ?_
      simp only [Act.put, sA, sZ, sS]
      refine tk 23 55 (.bool false) rfl hHeld ?_
      simp only [Act.put, sA, sZ, sS]
      refine tk 24 56 (.bool false) rfl hHeld ?_
      simp only [Act.put, sA, sZ, sS]
      refine tk 25 57 (.bool false) rfl hHeld ?_
      simp only [Act.put, sA, sZ, sS]
      refine tk 26 58 (.int .i64 m) rfl hHeld ?_
      simp only [Act.put, sA, sZ, sS]
      refine tk 27 59 (.bool true) rfl hHeld ?_
      simp only [Act.put, sA, sZ, sS]
      refine tk 28 60 (.bool true) rfl hHeld ?_
      simp only [Act.put, sA, sZ, sS]
      refine tk 29 61 (.bool true) rfl hHeld ?_
      simp only [Act.put, sA, sZ, sS]
      refine tkN 30 62 rfl hHeld ?_
      simp only [Act.put, sA, sZ, sS]
      refine tkN 31 63 rfl hHeld ?_
      simp only [Act.put, sA, sZ, sS]
      refine tk 32 64 (.bool true) rfl hHeld ?_
      simp only [Act.put, sA, sZ, sS]
      refine tk 33 65 (.bool true) rfl hHeld ?_
      simp only [Act.put, sA, sZ, sS]
      refine tkN 34 66 rfl hHeld ?_
      simp only [Act.put, sA, sZ, sS]
      refine tkN 35 67 rfl hHeld ?_
      simp only [Act.put, sA, sZ, sS]
      refine tk 36 68 (.bool true) rfl hHeld ?_
      simp only [Act.put, sA, sZ, sS]
      refine tk 37 69 (.bool true) rfl hHeld ?_
      simp only [Act.put, sA, sZ, sS]
      refine tkN 38 70 rfl hHeld ?_
      simp only [Act.put, sA, sZ, sS]
      refine tkN 39 71 rfl hHeld ?_
      simp only [Act.put, sA, sZ, sS]
      refine tkN 40 72 rfl hHeld ?_
      simp only [Act.put, sA, sZ, sS]
      refine tkN 41 73 rfl hHeld ?_
      simp only [Act.put, sA, sZ, sS]
      refine tkN 42 74 rfl hHeld ?_
      simp only [Act.put, sA, sZ, sS]
      refine tkN 43 75 rfl hHeld ?_
      simp only [Act.put, sA, sZ, sS]
      refine tkN 44 76 rfl hHeld ?_
      simp only [Act.put, sA, sZ, sS]
      refine tkN 45 77 rfl hHeld ?_
      simp only [Act.put, sA, sZ, sS]
      refine tkN 46 78 rfl hHeld ?_
      simp only [Act.put, sA, sZ, sS]
      refine tkN 47 79 rfl hHeld ?_
      simp only [Act.put, sA, sZ, sS]
      refine tkN 48 80 rfl hHeld ?_
      simp only [Act.put, sA, sZ, sS]
      refine tkN 49 81 rfl hHeld ?_
      simp only [Act.put, sA, sZ, sS]
      refine tkN 50 82 rfl hHeld ?_
      simp only [Act.put, sA, sZ, sS]
      refine tkN 51 83 rfl hHeld ?_
      simp only [Act.put, sA, sZ, sS]
      refine tkN 52 84 rfl hHeld ?_
      simp only [Act.put, sA, sZ, sS]
      refine tkN 53 85 rfl hHeld ?_
      simp only [Act.put, sA, sZ, sS]
      refine tkN 54 86 rfl hHeld ?_
      simp only [Act.put, sA, sZ, sS]
      refine tk 55 87 (.bool true) rfl hHeld ?_
      simp only [Act.put, sA, sZ, sS]
      refine wpAnyH_done (by kernel_rfl) ?_ _
      go_wp2_with fail
      go_ret
      exact ⟨rfl, HB3.out.trans (hHeld.mono HB3.out.size)⟩
    have b5 : decide (65535 < m) = false := decide_eq_false h5
    by_cases h6 : n < 0
    · have b6 : decide (n < 0) = true := decide_eq_true h6
      go_wp2_with fail
      refine wp_region_held_drew (S := fun W => Below w3.heap.size w3 W) (by kernel_rfl) ((Below.refl _ _).drew) (fun hHeld => ?_)
      obtain ⟨X, hX⟩ : ∃ X, w3.drew = X := ⟨_, rfl⟩
      rw [hX] at hHeld ⊢
      clear hX
      refine tk 0 32 (.pointer (some ⟨G, 0, none⟩)) rfl hHeld ?_
      simp only [Act.put, sA, sZ, sS]
      refine tkY 1 33 (.int .i64 0) rfl (Or.inl ⟨by rfl, fun W hW => by have hc := (HKC.out W hW).1; go_simp⟩) hHeld ?_
      simp only [Act.put, sA, sZ, sS]
      refine tk 2 34 (.bool false) rfl hHeld ?_
      simp only [Act.put, sA, sZ, sS]
      refine tk 3 35 (.bool false) rfl hHeld ?_
      simp only [Act.put, sA, sZ, sS]
      refine tk 4 36 (.pointer (some ⟨G, 1, none⟩)) rfl hHeld ?_
      simp only [Act.put, sA, sZ, sS]
      refine tk 5 37 (.pointer (some ⟨G, 1, none⟩)) rfl hHeld ?_
      simp only [Act.put, sA, sZ, sS]
      refine tk 6 38 (.pointer (some ⟨G, 1, none⟩)) rfl hHeld ?_
      simp only [Act.put, sA, sZ, sS]
      refine tkY 7 39 (.bool sx) rfl (Or.inl ⟨by rfl, fun W hW => by have hc := (HKC.out W hW).2; go_simp⟩) hHeld ?_
      simp only [Act.put, sA, sZ, sS]
      refine tkY 8 40 (.agg C1) rfl (HC1.out ▸ yieldsIf_load_mid (by rfl) 25 _ rfl (w.heap.size) 0 rfl (adL a) _ (fun W hW => Blk_10.range (HQ3.out.below HQ3.out.lt hW)) Try.underlying25 rfl (sizeAdL HAL.out)) hHeld ?_
      simp only [Act.put, sA, sZ, sS]
      refine wpAnyH_ready (rs := [9]) (by kernel_rfl) (by simp) (AllReadyH.cons (o := ⟨some 41, _, _, _, _, _⟩) rfl (fun K hK => ?_) AllReadyH.nil)
      rw [if_pos (by rfl)]
      go_simp
      refine (HOF.out _).mono ?_
      rintro e wf ⟨rfl, hbf⟩
      refine hK.out _ _ (hHeld.trans (hbf.mono hHeld.size)) (fun hHeld => ?_)
      clear hK K hbf
      refine tk 10 42 (.bool false) rfl hHeld ?_
      simp only [Act.put, sA, sZ, sS]
      refine tk 11 43 (.bool false) rfl hHeld ?_
      simp only [Act.put, sA, sZ, sS]
      refine tk 12 44 (.bool false) rfl hHeld ?_
      simp only [Act.put, sA, sZ, sS]
      refine tk 13 45 (.pointer (some ⟨G, 1, none⟩)) rfl hHeld ?_
      simp only [Act.put, sA, sZ, sS]
      refine tk 14 46 (.pointer (some ⟨G, 1, none⟩)) rfl hHeld ?_
      simp only [Act.put, sA, sZ, sS]
      refine tk 15 47 (.pointer (some ⟨G, 1, none⟩)) rfl hHeld ?_
      simp only [Act.put, sA, sZ, sS]
      refine tkY 16 48 (.bool sx) rfl (Or.inl ⟨by rfl, fun W hW => by have hc := (HKC.out W hW).2; go_simp⟩) hHeld ?_
      simp only [Act.put, sA, sZ, sS]
      refine tkY 17 49 (.agg C2) rfl (HC2.out ▸ yieldsIf_load_mid (by rfl) 25 _ rfl (w.heap.size + 1) 0 rfl (adL b) _ (fun W hW => Blk_10.range (HR3.out.below HR3.out.lt hW)) Try.underlying25 rfl (sizeAdL HBL.out)) hHeld ?_
      simp only [Act.put, sA, sZ, sS]
      refine wpAnyH_ready (rs := [18]) (by kernel_rfl) (by simp) (AllReadyH.cons (o := ⟨some 50, _, _, _, _, _⟩) rfl (fun K hK => ?_) AllReadyH.nil)
      rw [if_pos (by rfl)]
      go_simp
      refine (HOG.out _).mono ?_
      rintro e wf ⟨rfl, hbf⟩
      refine hK.out _ _ (hHeld.trans (hbf.mono hHeld.size)) (fun hHeld => ?_)
      clear hK K hbf
      refine tk 19 51 (.bool false) rfl hHeld ?_
      simp only [Act.put, sA, sZ, sS]
      refine tk 20 52 (.bool false) rfl hHeld ?_
      simp only [Act.put, sA, sZ, sS]
      refine tk 21 53 (.bool false) rfl hHeld ?_
      simp only [Act.put, sA, sZ, sS]
      refine tk 22 54 (.int .i64 m) rfl hHeld ?_
      simp only [Act.put, sA, sZ, sS]
      refine tk 23 55 (.bool false) rfl hHeld ?_
      simp only [Act.put, sA, sZ, sS]
      refine tk 24 56 (.bool false) rfl hHeld ?_
      simp only [Act.put, sA, sZ, sS]
      refine tk 25 57 (.bool false) rfl hHeld ?_
      simp only [Act.put, sA, sZ, sS]
      refine tk 26 58 (.int .i64 m) rfl hHeld ?_
      simp only [Act.put, sA, sZ, sS]
      refine tk 27 59 (.bool false) rfl hHeld ?_
      simp only [Act.put, sA, sZ, sS]
      refine tk 28 60 (.bool false) rfl hHeld ?_
      simp only [Act.put, sA, sZ, sS]
      refine tk 29 61 (.bool false) rfl hHeld ?_
      simp only [Act.put, sA, sZ, sS]
      refine tk 30 62 (.int .i64 n) rfl hHeld ?_
      simp only [Act.put, sA, sZ, sS]
      refine tk 31 63 (.bool true) rfl hHeld ?_
      simp only [Act.put, sA, sZ, sS]
      refine tk 32 64 (.bool true) rfl hHeld ?_
      simp only [Act.put, sA, sZ, sS]
      refine tk 33 65 (.bool true) rfl hHeld ?_
      simp only [Act.put, sA, sZ, sS]
      refine tkN 34 66 rfl hHeld ?_
      simp only [Act.put, sA, sZ, sS]
      refine tkN 35 67 rfl hHeld ?_
      simp only [Act.put, sA, sZ, sS]
      refine tk 36 68 (.bool true) rfl hHeld ?_
      simp only [Act.put, sA, sZ, sS]
      refine tk 37 69 (.bool true) rfl hHeld ?_
      simp only [Act.put, sA, sZ, sS]
      refine tkN 38 70 rfl hHeld ?_
      simp only [Act.put, sA, sZ, sS]
      refine tkN 39 71 rfl hHeld ?_
      simp only [Act.put, sA, sZ, sS]
      refine tkN 40 72 rfl hHeld ?_
      simp only [Act.put, sA, sZ, sS]
      refine tkN 41 73 rfl hHeld ?_
      simp only [Act.put, sA, sZ, sS]
      refine tkN 42 74 rfl hHeld ?_
      simp only [Act.put, sA, sZ, sS]
      refine tkN 43 75 rfl hHeld ?_
      simp only [Act.put, sA, sZ, sS]
      refine tkN 44 76 rfl hHeld ?_
      simp only [Act.put, sA, sZ, sS]
      refine tkN 45 77 rfl hHeld ?_
      simp only [Act.put, sA, sZ, sS]
      refine tkN 46 78 rfl hHeld ?_
      simp only [Act.put, sA, sZ, sS]
      refine tkN 47 79 rfl hHeld ?_
      simp only [Act.put, sA, sZ, sS]
      refine tkN 48 80 rfl hHeld ?_
      simp only [Act.put, sA, sZ, sS]
      refine tkN 49 81 rfl hHeld ?_
      simp only [Act.put, sA, sZ, sS]
      refine tkN 50 82 rfl hHeld ?_
      simp only [Act.put, sA, sZ, sS]
      refine tkN 51 83 rfl hHeld ?_
      simp only [Act.put, sA, sZ, sS]
      refine tkN 52 84 rfl hHeld ?_
      simp only [Act.put, sA, sZ, sS]
      refine tkN 53 85 rfl hHeld ?_
      simp only [Act.put, sA, sZ, sS]
      refine tkN 54 86 rfl hHeld ?_
      simp only [Act.put, sA, sZ, sS]
      refine tk 55 87 (.bool true) rfl hHeld ?_
      simp only [Act.put, sA, sZ, sS]
      refine wpAnyH_done (by kernel_rfl) ?_ _
      go_wp2_with fail
      go_ret
      exact ⟨rfl, HB3.out.trans (hHeld.mono HB3.out.size)⟩
    have b6 : decide (n < 0) = false := decide_eq_false h6
    by_cases h7 : 65535 < n
    · have b7 : decide (65535 < n) = true := decide_eq_true h7
      go_wp2_with fail
      refine wp_region_held_drew (S := fun W => Below w3.heap.size w3 W) (by kernel_rfl) ((Below.refl _ _).drew) (fun hHeld => ?_)
      obtain ⟨X, hX⟩ : ∃ X, w3.drew = X := ⟨_, rfl⟩
      rw [hX] at hHeld ⊢
      clear hX
      refine tk 0 32 (.pointer (some ⟨G, 0, none⟩)) rfl hHeld ?_
      simp only [Act.put, sA, sZ, sS]
      refine tkY 1 33 (.int .i64 0) rfl (Or.inl ⟨by rfl, fun W hW => by have hc := (HKC.out W hW).1; go_simp⟩) hHeld ?_
      simp only [Act.put, sA, sZ, sS]
      refine tk 2 34 (.bool false) rfl hHeld ?_
      simp only [Act.put, sA, sZ, sS]
      refine tk 3 35 (.bool false) rfl hHeld ?_
      simp only [Act.put, sA, sZ, sS]
      refine tk 4 36 (.pointer (some ⟨G, 1, none⟩)) rfl hHeld ?_
      simp only [Act.put, sA, sZ, sS]
      refine tk 5 37 (.pointer (some ⟨G, 1, none⟩)) rfl hHeld ?_
      simp only [Act.put, sA, sZ, sS]
      refine tk 6 38 (.pointer (some ⟨G, 1, none⟩)) rfl hHeld ?_
      simp only [Act.put, sA, sZ, sS]
      refine tkY 7 39 (.bool sx) rfl (Or.inl ⟨by rfl, fun W hW => by have hc := (HKC.out W hW).2; go_simp⟩) hHeld ?_
      simp only [Act.put, sA, sZ, sS]
      refine tkY 8 40 (.agg C1) rfl (HC1.out ▸ yieldsIf_load_mid (by rfl) 25 _ rfl (w.heap.size) 0 rfl (adL a) _ (fun W hW => Blk_10.range (HQ3.out.below HQ3.out.lt hW)) Try.underlying25 rfl (sizeAdL HAL.out)) hHeld ?_
      simp only [Act.put, sA, sZ, sS]
      refine wpAnyH_ready (rs := [9]) (by kernel_rfl) (by simp) (AllReadyH.cons (o := ⟨some 41, _, _, _, _, _⟩) rfl (fun K hK => ?_) AllReadyH.nil)
      rw [if_pos (by rfl)]
      go_simp
      refine (HOF.out _).mono ?_
      rintro e wf ⟨rfl, hbf⟩
      refine hK.out _ _ (hHeld.trans (hbf.mono hHeld.size)) (fun hHeld => ?_)
      clear hK K hbf
      refine tk 10 42 (.bool false) rfl hHeld ?_
      simp only [Act.put, sA, sZ, sS]
      refine tk 11 43 (.bool false) rfl hHeld ?_
      simp only [Act.put, sA, sZ, sS]
      refine tk 12 44 (.bool false) rfl hHeld ?_
      simp only [Act.put, sA, sZ, sS]
      refine tk 13 45 (.pointer (some ⟨G, 1, none⟩)) rfl hHeld ?_
      simp only [Act.put, sA, sZ, sS]
      refine tk 14 46 (.pointer (some ⟨G, 1, none⟩)) rfl hHeld ?_
      simp only [Act.put, sA, sZ, sS]
      refine tk 15 47 (.pointer (some ⟨G, 1, none⟩)) rfl hHeld ?_
      simp only [Act.put, sA, sZ, sS]
      refine tkY 16 48 (.bool sx) rfl (Or.inl ⟨by rfl, fun W hW => by have hc := (HKC.out W hW).2; go_simp⟩) hHeld ?_
      simp only [Act.put, sA, sZ, sS]
      refine tkY 17 49 (.agg C2) rfl (HC2.out ▸ yieldsIf_load_mid (by rfl) 25 _ rfl (w.heap.size + 1) 0 rfl (adL b) _ (fun W hW => Blk_10.range (HR3.out.below HR3.out.lt hW)) Try.underlying25 rfl (sizeAdL HBL.out)) hHeld ?_
      simp only [Act.put, sA, sZ, sS]
      refine wpAnyH_ready (rs := [18]) (by kernel_rfl) (by simp) (AllReadyH.cons (o := ⟨some 50, _, _, _, _, _⟩) rfl (fun K hK => ?_) AllReadyH.nil)
      rw [if_pos (by rfl)]
      go_simp
      refine (HOG.out _).mono ?_
      rintro e wf ⟨rfl, hbf⟩
      refine hK.out _ _ (hHeld.trans (hbf.mono hHeld.size)) (fun hHeld => ?_)
      clear hK K hbf
      refine tk 19 51 (.bool false) rfl hHeld ?_
      simp only [Act.put, sA, sZ, sS]
      refine tk 20 52 (.bool false) rfl hHeld ?_
      simp only [Act.put, sA, sZ, sS]
      refine tk 21 53 (.bool false) rfl hHeld ?_
      simp only [Act.put, sA, sZ, sS]
      refine tk 22 54 (.int .i64 m) rfl hHeld ?_
      simp only [Act.put, sA, sZ, sS]
      refine tk 23 55 (.bool false) rfl hHeld ?_
      simp only [Act.put, sA, sZ, sS]
      refine tk 24 56 (.bool false) rfl hHeld ?_
      simp only [Act.put, sA, sZ, sS]
      refine tk 25 57 (.bool false) rfl hHeld ?_
      simp only [Act.put, sA, sZ, sS]
      refine tk 26 58 (.int .i64 m) rfl hHeld ?_
      simp only [Act.put, sA, sZ, sS]
      refine tk 27 59 (.bool false) rfl hHeld ?_
      simp only [Act.put, sA, sZ, sS]
      refine tk 28 60 (.bool false) rfl hHeld ?_
      simp only [Act.put, sA, sZ, sS]
      refine tk 29 61 (.bool false) rfl hHeld ?_
      simp only [Act.put, sA, sZ, sS]
      refine tk 30 62 (.int .i64 n) rfl hHeld ?_
      simp only [Act.put, sA, sZ, sS]
      refine tk 31 63 (.bool false) rfl hHeld ?_
      simp only [Act.put, sA, sZ, sS]
      refine tk 32 64 (.bool false) rfl hHeld ?_
      simp only [Act.put, sA, sZ, sS]
      refine tk 33 65 (.bool false) rfl hHeld ?_
      simp only [Act.put, sA, sZ, sS]
      refine tk 34 66 (.int .i64 n) rfl hHeld ?_
      simp only [Act.put, sA, sZ, sS]
      refine tk 35 67 (.bool true) rfl hHeld ?_
      simp only [Act.put, sA, sZ, sS]
      refine tk 36 68 (.bool true) rfl hHeld ?_
      simp only [Act.put, sA, sZ, sS]
      refine tk 37 69 (.bool true) rfl hHeld ?_
      simp only [Act.put, sA, sZ, sS]
      refine tkN 38 70 rfl hHeld ?_
      simp only [Act.put, sA, sZ, sS]
      refine tkN 39 71 rfl hHeld ?_
      simp only [Act.put, sA, sZ, sS]
      refine tkN 40 72 rfl hHeld ?_
      simp only [Act.put, sA, sZ, sS]
      refine tkN 41 73 rfl hHeld ?_
      simp only [Act.put, sA, sZ, sS]
      refine tkN 42 74 rfl hHeld ?_
      simp only [Act.put, sA, sZ, sS]
      refine tkN 43 75 rfl hHeld ?_
      simp only [Act.put, sA, sZ, sS]
      refine tkN 44 76 rfl hHeld ?_
      simp only [Act.put, sA, sZ, sS]
      refine tkN 45 77 rfl hHeld ?_
      simp only [Act.put, sA, sZ, sS]
      refine tkN 46 78 rfl hHeld ?_
      simp only [Act.put, sA, sZ, sS]
      refine tkN 47 79 rfl hHeld ?_
      simp only [Act.put, sA, sZ, sS]
      refine tkN 48 80 rfl hHeld ?_
      simp only [Act.put, sA, sZ, sS]
      refine tkN 49 81 rfl hHeld ?_
      simp only [Act.put, sA, sZ, sS]
      refine tkN 50 82 rfl hHeld ?_
      simp only [Act.put, sA, sZ, sS]
      refine tkN 51 83 rfl hHeld ?_
      simp only [Act.put, sA, sZ, sS]
      refine tkN 52 84 rfl hHeld ?_
      simp only [Act.put, sA, sZ, sS]
      refine tkN 53 85 rfl hHeld ?_
      simp only [Act.put, sA, sZ, sS]
      refine tkN 54 86 rfl hHeld ?_
      simp only [Act.put, sA, sZ, sS]
      refine tk 55 87 (.bool true) rfl hHeld ?_
      simp only [Act.put, sA, sZ, sS]
      refine wpAnyH_done (by kernel_rfl) ?_ _
      go_wp2_with fail
      go_ret
      exact ⟨rfl, HB3.out.trans (hHeld.mono HB3.out.size)⟩
    have b7 : decide (65535 < n) = false := decide_eq_false h7
    have hka : mayN (readK xs) a m = true := by
      unfold mayN
      rw [HK.out, HKD.out, HSX.out, HOA.out, decide_eq_true (show 0 ≤ m ∧ m ≤ 65535 by omega)]
      rfl
    have hkb : mayN (readK xs) b n = true := by
      unfold mayN
      rw [HK.out, HKD.out, HSX.out, HOB.out, decide_eq_true (show 0 ≤ n ∧ n ≤ 65535 by omega)]
      rfl
    obtain ⟨z, six, N, p, u, hA⟩ := at_fine (mayN_yes hka).1
    have hown := hA.own
    obtain ⟨ho, m0, m1⟩ := hA.may hka
    obtain ⟨hp, n0, n1⟩ := hA.may hkb
    obtain ⟨hsg, hht⟩ := seg_cut hA
    have hxl := hA.x
    obtain ⟨e1, e2, e3, e4, _, _, _, _, e9, _⟩ := hA.en
    have hck : p + N.head + plc u + 2 ≤ p + N.total := by have := hA.f.bnd.k; omega
    have hhd : 20 ≤ N.head := by have := hA.f.bnd.h0; cases six <;> simp at this <;> omega
    rw [HK.out] at e1 e2 e3 e4 e9
    have hs6 : sx = six := by rw [← HSX.out]; exact e4
    subst hs6
    obtain ⟨S, hS⟩ : ∃ S, p + N.head = S := ⟨_, rfl⟩
    obtain ⟨E, hE⟩ : ∃ E, p + N.total = E := ⟨_, rfl⟩
    obtain ⟨l, hl⟩ : ∃ l, N.total - N.head = l := ⟨_, rfl⟩
    rw [hS] at e2 hsg hck
    rw [hE] at e1 hxl hck
    rw [hl] at hsg
    have hSE : S + l = E := by omega
    have hlE : E ≤ len := by rw [← HXL.out]; exact hxl
    have hp20 : p + 20 ≤ S := by omega
    have HKN := Lib.hid (fun W (h : Below w3.heap.size w3 W) => show W.cell? ⟨G, 40, none⟩ = some (.int .i64 (S : Int)) ∧ W.cell? ⟨G, 41, none⟩ = some (.int .i64 (E : Int)) ∧ W.cell? ⟨G, 39, none⟩ = some (.int .i64 (p : Int)) from by
      obtain ⟨_, _, q1, q2, q3⟩ := pk_cells (HP3.out.below HP3.out.lt h) HOK.out
      exact ⟨e2 ▸ q2, e1 ▸ q3, e3 ▸ q1⟩)
    have HKP := Lib.hid (fun W (h : Below w3.heap.size w3 W) => Blk_10.cell (HP3.out.below HP3.out.lt h) (pkL_pr HOK.out))
    obtain ⟨RR, hR⟩ : ∃ R, rightS sx k.t.s.b k.t.d.b u (segN (z.drop p) N) = R := ⟨_, rfl⟩
    have R1 := Lib.hid (fun W (h : Rd W W.heap.size A len xs) => show Calls Try.prog 16 #[.agg (adL k.t.s).toArray, .agg (adL k.t.d).toArray, .int .i64 k.t.pr, .slice (cutA A cap S) l (cap - S)] W fun e w' => e = .returned (.bool RR) ∧ Below W.heap.size W w' from by
      have c := h.cut (l := S) (n := l) (by omega) cap HCA.out
      rw [hsg] at c
      have := right_at hA (by have := HN1.out; rw [HXL.out]; omega) (A := cutA A cap S) (cap := cap - S) W (by rw [hl]; exact c) (by rw [hl]; have := HCA.out; omega)
      rw [HK.out, hl, hR] at this
      exact this)
    have CUT1 := Lib.hid (fun W => run_cut8 A len cap S l (S : Int) (E : Int) rfl (by omega) (by have := HCA.out; omega) W)
    have HKA := Lib.hid hka
    have HKB := Lib.hid hkb
    have HA := Lib.hid hA
    have HOWN := Lib.hid hown
    have HO1 := Lib.hid ho
    have HP1 := Lib.hid hp
    have HLE := Lib.hid (show E ≤ len ∧ p + 20 ≤ S ∧ S + plc u + 2 ≤ E ∧ S + l = E from ⟨hlE, hp20, hck, hSE⟩)
    have HSS := Lib.hid hS
    have HLL := Lib.hid hl
    have HKEN := Lib.hid e1
    have HEE := Lib.hid hE
    have HPR := Lib.hid e9
    clear hka hkb hA hown ho hp m0 m1 n0 n1 hsg hht hxl e1 e2 e3 e4 e9 hck hhd hE hl hSE hlE hp20 hR hS
    cases RR with
    | false =>
      go_wp2_with fail
      refine wp_region_held_drew (S := fun W => Below w3.heap.size w3 W) (by kernel_rfl) ((Below.refl _ _).drew) (fun hHeld => ?_)
      obtain ⟨X, hX⟩ : ∃ X, w3.drew = X := ⟨_, rfl⟩
      rw [hX] at hHeld ⊢
      clear hX
      refine tk 0 32 (.pointer (some ⟨G, 0, none⟩)) rfl hHeld ?_
      simp only [Act.put, sA, sZ, sS]
      refine tkY 1 33 (.int .i64 0) rfl (Or.inl ⟨by rfl, fun W hW => by have hc := (HKC.out W hW).1; go_simp⟩) hHeld ?_
      simp only [Act.put, sA, sZ, sS]
      refine tk 2 34 (.bool false) rfl hHeld ?_
      simp only [Act.put, sA, sZ, sS]
      refine tk 3 35 (.bool false) rfl hHeld ?_
      simp only [Act.put, sA, sZ, sS]
      refine tk 4 36 (.pointer (some ⟨G, 1, none⟩)) rfl hHeld ?_
      simp only [Act.put, sA, sZ, sS]
      refine tk 5 37 (.pointer (some ⟨G, 1, none⟩)) rfl hHeld ?_
      simp only [Act.put, sA, sZ, sS]
      refine tk 6 38 (.pointer (some ⟨G, 1, none⟩)) rfl hHeld ?_
      simp only [Act.put, sA, sZ, sS]
      refine tkY 7 39 (.bool sx) rfl (Or.inl ⟨by rfl, fun W hW => by have hc := (HKC.out W hW).2; go_simp⟩) hHeld ?_
      simp only [Act.put, sA, sZ, sS]
      refine tkY 8 40 (.agg C1) rfl (HC1.out ▸ yieldsIf_load_mid (by rfl) 25 _ rfl (w.heap.size) 0 rfl (adL a) _ (fun W hW => Blk_10.range (HQ3.out.below HQ3.out.lt hW)) Try.underlying25 rfl (sizeAdL HAL.out)) hHeld ?_
      simp only [Act.put, sA, sZ, sS]
      refine wpAnyH_ready (rs := [9]) (by kernel_rfl) (by simp) (AllReadyH.cons (o := ⟨some 41, _, _, _, _, _⟩) rfl (fun K hK => ?_) AllReadyH.nil)
      rw [if_pos (by rfl)]
      go_simp
      refine (HOF.out _).mono ?_
      rintro e wf ⟨rfl, hbf⟩
      refine hK.out _ _ (hHeld.trans (hbf.mono hHeld.size)) (fun hHeld => ?_)
      clear hK K hbf
      refine tk 10 42 (.bool false) rfl hHeld ?_
      simp only [Act.put, sA, sZ, sS]
      refine tk 11 43 (.bool false) rfl hHeld ?_
      simp only [Act.put, sA, sZ, sS]
      refine tk 12 44 (.bool false) rfl hHeld ?_
      simp only [Act.put, sA, sZ, sS]
      refine tk 13 45 (.pointer (some ⟨G, 1, none⟩)) rfl hHeld ?_
      simp only [Act.put, sA, sZ, sS]
      refine tk 14 46 (.pointer (some ⟨G, 1, none⟩)) rfl hHeld ?_
      simp only [Act.put, sA, sZ, sS]
      refine tk 15 47 (.pointer (some ⟨G, 1, none⟩)) rfl hHeld ?_
      simp only [Act.put, sA, sZ, sS]
      refine tkY 16 48 (.bool sx) rfl (Or.inl ⟨by rfl, fun W hW => by have hc := (HKC.out W hW).2; go_simp⟩) hHeld ?_
      simp only [Act.put, sA, sZ, sS]
      refine tkY 17 49 (.agg C2) rfl (HC2.out ▸ yieldsIf_load_mid (by rfl) 25 _ rfl (w.heap.size + 1) 0 rfl (adL b) _ (fun W hW => Blk_10.range (HR3.out.below HR3.out.lt hW)) Try.underlying25 rfl (sizeAdL HBL.out)) hHeld ?_
      simp only [Act.put, sA, sZ, sS]
      refine wpAnyH_ready (rs := [18]) (by kernel_rfl) (by simp) (AllReadyH.cons (o := ⟨some 50, _, _, _, _, _⟩) rfl (fun K hK => ?_) AllReadyH.nil)
      rw [if_pos (by rfl)]
      go_simp
      refine (HOG.out _).mono ?_
      rintro e wf ⟨rfl, hbf⟩
      refine hK.out _ _ (hHeld.trans (hbf.mono hHeld.size)) (fun hHeld => ?_)
      clear hK K hbf
      refine tk 19 51 (.bool false) rfl hHeld ?_
      simp only [Act.put, sA, sZ, sS]
      refine tk 20 52 (.bool false) rfl hHeld ?_
      simp only [Act.put, sA, sZ, sS]
      refine tk 21 53 (.bool false) rfl hHeld ?_
      simp only [Act.put, sA, sZ, sS]
      refine tk 22 54 (.int .i64 m) rfl hHeld ?_
      simp only [Act.put, sA, sZ, sS]
      refine tk 23 55 (.bool false) rfl hHeld ?_
      simp only [Act.put, sA, sZ, sS]
      refine tk 24 56 (.bool false) rfl hHeld ?_
      simp only [Act.put, sA, sZ, sS]
      refine tk 25 57 (.bool false) rfl hHeld ?_
      simp only [Act.put, sA, sZ, sS]
      refine tk 26 58 (.int .i64 m) rfl hHeld ?_
      simp only [Act.put, sA, sZ, sS]
      refine tk 27 59 (.bool false) rfl hHeld ?_
      simp only [Act.put, sA, sZ, sS]
      refine tk 28 60 (.bool false) rfl hHeld ?_
      simp only [Act.put, sA, sZ, sS]
      refine tk 29 61 (.bool false) rfl hHeld ?_
      simp only [Act.put, sA, sZ, sS]
      refine tk 30 62 (.int .i64 n) rfl hHeld ?_
      simp only [Act.put, sA, sZ, sS]
      refine tk 31 63 (.bool false) rfl hHeld ?_
      simp only [Act.put, sA, sZ, sS]
      refine tk 32 64 (.bool false) rfl hHeld ?_
      simp only [Act.put, sA, sZ, sS]
      refine tk 33 65 (.bool false) rfl hHeld ?_
      simp only [Act.put, sA, sZ, sS]
      refine tk 34 66 (.int .i64 n) rfl hHeld ?_
      simp only [Act.put, sA, sZ, sS]
      refine tk 35 67 (.bool false) rfl hHeld ?_
      simp only [Act.put, sA, sZ, sS]
      refine tk 36 68 (.bool false) rfl hHeld ?_
      simp only [Act.put, sA, sZ, sS]
      refine tk 37 69 (.bool false) rfl hHeld ?_
      simp only [Act.put, sA, sZ, sS]
      refine tk 38 70 (.pointer (some ⟨G, 1, none⟩)) rfl hHeld ?_
      simp only [Act.put, sA, sZ, sS]
      refine tk 39 71 (.pointer (some ⟨G, 1, none⟩)) rfl hHeld ?_
      simp only [Act.put, sA, sZ, sS]
      refine tkY 40 72 (.agg (adL k.t.s).toArray) rfl (yieldsIf_load_mid (by rfl) 25 _ rfl G 1 rfl (adL k.t.s) _ (fun W hW => Blk_10.mid (HP3.out.below HP3.out.lt hW) (pk_src k) rfl) Try.underlying25 rfl (sizeAdL HOK.out.s)) hHeld ?_
      simp only [Act.put, sA, sZ, sS]
      refine tk 41 73 (.pointer (some ⟨G, 1, none⟩)) rfl hHeld ?_
      simp only [Act.put, sA, sZ, sS]
      refine tk 42 74 (.pointer (some ⟨G, 18, none⟩)) rfl hHeld ?_
      simp only [Act.put, sA, sZ, sS]
      refine tkY 43 75 (.agg (adL k.t.d).toArray) rfl (yieldsIf_load_mid (by rfl) 25 _ rfl G 18 rfl (adL k.t.d) _ (fun W hW => Blk_10.mid (HP3.out.below HP3.out.lt hW) (pk_dst k) (by rw [List.length_cons, adL_len HOK.out.s])) Try.underlying25 rfl (sizeAdL HOK.out.d)) hHeld ?_
      simp only [Act.put, sA, sZ, sS]
      refine tk 44 76 (.pointer (some ⟨G, 1, none⟩)) rfl hHeld ?_
      simp only [Act.put, sA, sZ, sS]
      refine tk 45 77 (.pointer (some ⟨G, 35, none⟩)) rfl hHeld ?_
      simp only [Act.put, sA, sZ, sS]
      refine tkY 46 78 (.int .i64 k.t.pr) rfl (Or.inl ⟨by rfl, fun W hW => by have hc := HKP.out W hW; go_simp⟩) hHeld ?_
      simp only [Act.put, sA, sZ, sS]
      refine tk 47 79 (.slice A len cap) rfl hHeld ?_
      simp only [Act.put, sA, sZ, sS]
      refine tk 48 80 (.pointer (some ⟨G, 40, none⟩)) rfl hHeld ?_
      simp only [Act.put, sA, sZ, sS]
      refine tkY 49 81 (.int .i64 (S : Int)) rfl (Or.inl ⟨by rfl, fun W hW => by have hc := (HKN.out W hW).1; go_simp⟩) hHeld ?_
      simp only [Act.put, sA, sZ, sS]
      refine tk 50 82 (.pointer (some ⟨G, 41, none⟩)) rfl hHeld ?_
      simp only [Act.put, sA, sZ, sS]
      refine tkY 51 83 (.int .i64 (E : Int)) rfl (Or.inl ⟨by rfl, fun W hW => by have hc := (HKN.out W hW).2.1; go_simp⟩) hHeld ?_
      simp only [Act.put, sA, sZ, sS]
      refine tkY 52 84 (.slice (cutA A cap S) l (cap - S)) rfl (Or.inl ⟨by rfl, fun W _ => by have hs := CUT1.out W; go_simp⟩) hHeld ?_
      simp only [Act.put, sA, sZ, sS]
      refine wpAnyH_ready (rs := [53]) (by kernel_rfl) (by simp) (AllReadyH.cons (o := ⟨some 85, _, _, _, _, _⟩) rfl (fun K hK => ?_) AllReadyH.nil)
      rw [if_pos (by rfl)]
      go_simp
      refine (R1.out _ (HRX.out _ (HB3.out.trans (hHeld.mono HB3.out.size)))).mono ?_
      rintro e w4 ⟨rfl, hbf⟩
      refine hK.out _ _ (hHeld.trans (hbf.mono hHeld.size)) (fun hHeld => ?_)
      clear hK K hbf
      refine tk 54 86 (.bool true) rfl hHeld ?_
      simp only [Act.put, sA, sZ, sS]
      refine tk 55 87 (.bool true) rfl hHeld ?_
      simp only [Act.put, sA, sZ, sS]
      refine wpAnyH_done (by kernel_rfl) ?_ _
      go_wp2_with fail
      go_ret
      exact ⟨rfl, HB3.out.trans (hHeld.mono HB3.out.size)⟩
    | true =>
    go_wp2_with fail
    refine wp_region_held_drew (S := fun W => Below w3.heap.size w3 W) (by kernel_rfl) ((Below.refl _ _).drew) (fun hHeld => ?_)
    obtain ⟨X, hX⟩ : ∃ X, w3.drew = X := ⟨_, rfl⟩
    rw [hX] at hHeld ⊢
    clear hX
    refine tk 0 32 (.pointer (some ⟨G, 0, none⟩)) rfl hHeld ?_
    simp only [Act.put, sA, sZ, sS]
    refine tkY 1 33 (.int .i64 0) rfl (Or.inl ⟨by rfl, fun W hW => by have hc := (HKC.out W hW).1; go_simp⟩) hHeld ?_
    simp only [Act.put, sA, sZ, sS]
    refine tk 2 34 (.bool false) rfl hHeld ?_
    simp only [Act.put, sA, sZ, sS]
    refine tk 3 35 (.bool false) rfl hHeld ?_
    simp only [Act.put, sA, sZ, sS]
    refine tk 4 36 (.pointer (some ⟨G, 1, none⟩)) rfl hHeld ?_
    simp only [Act.put, sA, sZ, sS]
    refine tk 5 37 (.pointer (some ⟨G, 1, none⟩)) rfl hHeld ?_
    simp only [Act.put, sA, sZ, sS]
    refine tk 6 38 (.pointer (some ⟨G, 1, none⟩)) rfl hHeld ?_
    simp only [Act.put, sA, sZ, sS]
    refine tkY 7 39 (.bool sx) rfl (Or.inl ⟨by rfl, fun W hW => by have hc := (HKC.out W hW).2; go_simp⟩) hHeld ?_
    simp only [Act.put, sA, sZ, sS]
    refine tkY 8 40 (.agg C1) rfl (HC1.out ▸ yieldsIf_load_mid (by rfl) 25 _ rfl (w.heap.size) 0 rfl (adL a) _ (fun W hW => Blk_10.range (HQ3.out.below HQ3.out.lt hW)) Try.underlying25 rfl (sizeAdL HAL.out)) hHeld ?_
    simp only [Act.put, sA, sZ, sS]
    refine wpAnyH_ready (rs := [9]) (by kernel_rfl) (by simp) (AllReadyH.cons (o := ⟨some 41, _, _, _, _, _⟩) rfl (fun K hK => ?_) AllReadyH.nil)
    rw [if_pos (by rfl)]
    go_simp
    refine (HOF.out _).mono ?_
    rintro e wf ⟨rfl, hbf⟩
    refine hK.out _ _ (hHeld.trans (hbf.mono hHeld.size)) (fun hHeld => ?_)
    clear hK K hbf
    refine tk 10 42 (.bool false) rfl hHeld ?_
    simp only [Act.put, sA, sZ, sS]
    refine tk 11 43 (.bool false) rfl hHeld ?_
    simp only [Act.put, sA, sZ, sS]
    refine tk 12 44 (.bool false) rfl hHeld ?_
    simp only [Act.put, sA, sZ, sS]
    refine tk 13 45 (.pointer (some ⟨G, 1, none⟩)) rfl hHeld ?_
    simp only [Act.put, sA, sZ, sS]
    refine tk 14 46 (.pointer (some ⟨G, 1, none⟩)) rfl hHeld ?_
    simp only [Act.put, sA, sZ, sS]
    refine tk 15 47 (.pointer (some ⟨G, 1, none⟩)) rfl hHeld ?_
    simp only [Act.put, sA, sZ, sS]
    refine tkY 16 48 (.bool sx) rfl (Or.inl ⟨by rfl, fun W hW => by have hc := (HKC.out W hW).2; go_simp⟩) hHeld ?_
    simp only [Act.put, sA, sZ, sS]
    refine tkY 17 49 (.agg C2) rfl (HC2.out ▸ yieldsIf_load_mid (by rfl) 25 _ rfl (w.heap.size + 1) 0 rfl (adL b) _ (fun W hW => Blk_10.range (HR3.out.below HR3.out.lt hW)) Try.underlying25 rfl (sizeAdL HBL.out)) hHeld ?_
    simp only [Act.put, sA, sZ, sS]
    refine wpAnyH_ready (rs := [18]) (by kernel_rfl) (by simp) (AllReadyH.cons (o := ⟨some 50, _, _, _, _, _⟩) rfl (fun K hK => ?_) AllReadyH.nil)
    rw [if_pos (by rfl)]
    go_simp
    refine (HOG.out _).mono ?_
    rintro e wf ⟨rfl, hbf⟩
    refine hK.out _ _ (hHeld.trans (hbf.mono hHeld.size)) (fun hHeld => ?_)
    clear hK K hbf
    refine tk 19 51 (.bool false) rfl hHeld ?_
    simp only [Act.put, sA, sZ, sS]
    refine tk 20 52 (.bool false) rfl hHeld ?_
    simp only [Act.put, sA, sZ, sS]
    refine tk 21 53 (.bool false) rfl hHeld ?_
    simp only [Act.put, sA, sZ, sS]
    refine tk 22 54 (.int .i64 m) rfl hHeld ?_
    simp only [Act.put, sA, sZ, sS]
    refine tk 23 55 (.bool false) rfl hHeld ?_
    simp only [Act.put, sA, sZ, sS]
    refine tk 24 56 (.bool false) rfl hHeld ?_
    simp only [Act.put, sA, sZ, sS]
    refine tk 25 57 (.bool false) rfl hHeld ?_
    simp only [Act.put, sA, sZ, sS]
    refine tk 26 58 (.int .i64 m) rfl hHeld ?_
    simp only [Act.put, sA, sZ, sS]
    refine tk 27 59 (.bool false) rfl hHeld ?_
    simp only [Act.put, sA, sZ, sS]
    refine tk 28 60 (.bool false) rfl hHeld ?_
    simp only [Act.put, sA, sZ, sS]
    refine tk 29 61 (.bool false) rfl hHeld ?_
    simp only [Act.put, sA, sZ, sS]
    refine tk 30 62 (.int .i64 n) rfl hHeld ?_
    simp only [Act.put, sA, sZ, sS]
    refine tk 31 63 (.bool false) rfl hHeld ?_
    simp only [Act.put, sA, sZ, sS]
    refine tk 32 64 (.bool false) rfl hHeld ?_
    simp only [Act.put, sA, sZ, sS]
    refine tk 33 65 (.bool false) rfl hHeld ?_
    simp only [Act.put, sA, sZ, sS]
    refine tk 34 66 (.int .i64 n) rfl hHeld ?_
    simp only [Act.put, sA, sZ, sS]
    refine tk 35 67 (.bool false) rfl hHeld ?_
    simp only [Act.put, sA, sZ, sS]
    refine tk 36 68 (.bool false) rfl hHeld ?_
    simp only [Act.put, sA, sZ, sS]
    refine tk 37 69 (.bool false) rfl hHeld ?_
    simp only [Act.put, sA, sZ, sS]
    refine tk 38 70 (.pointer (some ⟨G, 1, none⟩)) rfl hHeld ?_
    simp only [Act.put, sA, sZ, sS]
    refine tk 39 71 (.pointer (some ⟨G, 1, none⟩)) rfl hHeld ?_
    simp only [Act.put, sA, sZ, sS]
    refine tkY 40 72 (.agg (adL k.t.s).toArray) rfl (yieldsIf_load_mid (by rfl) 25 _ rfl G 1 rfl (adL k.t.s) _ (fun W hW => Blk_10.mid (HP3.out.below HP3.out.lt hW) (pk_src k) rfl) Try.underlying25 rfl (sizeAdL HOK.out.s)) hHeld ?_
    simp only [Act.put, sA, sZ, sS]
    refine tk 41 73 (.pointer (some ⟨G, 1, none⟩)) rfl hHeld ?_
    simp only [Act.put, sA, sZ, sS]
    refine tk 42 74 (.pointer (some ⟨G, 18, none⟩)) rfl hHeld ?_
    simp only [Act.put, sA, sZ, sS]
    refine tkY 43 75 (.agg (adL k.t.d).toArray) rfl (yieldsIf_load_mid (by rfl) 25 _ rfl G 18 rfl (adL k.t.d) _ (fun W hW => Blk_10.mid (HP3.out.below HP3.out.lt hW) (pk_dst k) (by rw [List.length_cons, adL_len HOK.out.s])) Try.underlying25 rfl (sizeAdL HOK.out.d)) hHeld ?_
    simp only [Act.put, sA, sZ, sS]
    refine tk 44 76 (.pointer (some ⟨G, 1, none⟩)) rfl hHeld ?_
    simp only [Act.put, sA, sZ, sS]
    refine tk 45 77 (.pointer (some ⟨G, 35, none⟩)) rfl hHeld ?_
    simp only [Act.put, sA, sZ, sS]
    refine tkY 46 78 (.int .i64 k.t.pr) rfl (Or.inl ⟨by rfl, fun W hW => by have hc := HKP.out W hW; go_simp⟩) hHeld ?_
    simp only [Act.put, sA, sZ, sS]
    refine tk 47 79 (.slice A len cap) rfl hHeld ?_
    simp only [Act.put, sA, sZ, sS]
    refine tk 48 80 (.pointer (some ⟨G, 40, none⟩)) rfl hHeld ?_
    simp only [Act.put, sA, sZ, sS]
    refine tkY 49 81 (.int .i64 (S : Int)) rfl (Or.inl ⟨by rfl, fun W hW => by have hc := (HKN.out W hW).1; go_simp⟩) hHeld ?_
    simp only [Act.put, sA, sZ, sS]
    refine tk 50 82 (.pointer (some ⟨G, 41, none⟩)) rfl hHeld ?_
    simp only [Act.put, sA, sZ, sS]
    refine tkY 51 83 (.int .i64 (E : Int)) rfl (Or.inl ⟨by rfl, fun W hW => by have hc := (HKN.out W hW).2.1; go_simp⟩) hHeld ?_
    simp only [Act.put, sA, sZ, sS]
    refine tkY 52 84 (.slice (cutA A cap S) l (cap - S)) rfl (Or.inl ⟨by rfl, fun W _ => by have hs := CUT1.out W; go_simp⟩) hHeld ?_
    simp only [Act.put, sA, sZ, sS]
    refine wpAnyH_ready (rs := [53]) (by kernel_rfl) (by simp) (AllReadyH.cons (o := ⟨some 85, _, _, _, _, _⟩) rfl (fun K hK => ?_) AllReadyH.nil)
    rw [if_pos (by rfl)]
    go_simp
    refine (R1.out _ (HRX.out _ (HB3.out.trans (hHeld.mono HB3.out.size)))).mono ?_
    rintro e w4 ⟨rfl, hbf⟩
    refine hK.out _ _ (hHeld.trans (hbf.mono hHeld.size)) (fun hHeld => ?_)
    clear hK K hbf
    refine tk 54 86 (.bool false) rfl hHeld ?_
    simp only [Act.put, sA, sZ, sS]
    refine tk 55 87 (.bool false) rfl hHeld ?_
    simp only [Act.put, sA, sZ, sS]
    refine wpAnyH_done (by kernel_rfl) ?_ _
    have HB4 := Lib.hid (HB3.out.trans (hHeld.mono HB3.out.size))
    have HP4 := Lib.hid (HP3.out.below HP3.out.lt hHeld)
    have HQ4 := Lib.hid (HQ3.out.below HQ3.out.lt hHeld)
    have HR4 := Lib.hid (HR3.out.below HR3.out.lt hHeld)
    have HKN4 := Lib.hid (fun W (h : Below w4.heap.size w4 W) => HKN.out W (hHeld.trans (h.mono hHeld.size)))
    have HKP4 := Lib.hid (fun W (h : Below w4.heap.size w4 W) => show W.cell? ⟨G, 35, none⟩ = some (.int .i64 (prN u : Int)) from HPR.out ▸ HKP.out W (hHeld.trans (h.mono hHeld.size)))
    have HKC4 := Lib.hid (fun W (h : Below w4.heap.size w4 W) => (HKC.out W (hHeld.trans (h.mono hHeld.size))).2)
    clear hHeld HKN HKP HKC R1 HRD HOF HOG CUT1
    obtain ⟨ck, hck⟩ : ∃ c, S + plc u = c := ⟨_, rfl⟩
    obtain ⟨PN, hPN⟩ : ∃ c, prN u = c := ⟨_, rfl⟩
    have HPL := Lib.hid (fun W => show Calls Try.prog 19 #[.int .i64 (prN u : Int)] W fun e w' => e = .returned (.int .i64 (plc u : Nat)) ∧ W = w' from (show plcI (prN u : Nat) = plc u by cases u <;> rfl) ▸ rplace_any (prN u : Nat) W)
    rw [hPN] at HPL HKP4
    have hck2 : ck + 2 ≤ E := by have := HLE.out; omega
    have hEl : E ≤ len ∧ len ≤ 3000 := ⟨HLE.out.1, HN1.out⟩
    have a1 : IntKind.i64.wrap ((S : Int) + (plc u : Nat)) = (ck : Int) := by have := HLE.out; rw [IntKind.wrap_i64]; omega
    have HCK := Lib.hid hck
    have HPN := Lib.hid hPN
    have HCE := Lib.hid (show ck + 2 ≤ E ∧ p + 20 ≤ S ∧ S ≤ ck ∧ E ≤ len ∧ len ≤ 3000 by have := HLE.out; omega)
    clear hck hPN hck2 hEl
    go_wp2_with fail
    refine wp_region_held_drew (S := fun W => Below w4.heap.size w4 W) (by kernel_rfl) ((Below.refl _ _).drew) (fun hHeld => ?_)
    obtain ⟨X, hX⟩ : ∃ X, w4.drew = X := ⟨_, rfl⟩
    rw [hX] at hHeld ⊢
    clear hX
    refine tk 0 88 (.pointer (some ⟨G, 40, none⟩)) rfl hHeld ?_
    simp only [Act.put, sA, sZ, sS]
    refine tkY 1 89 (.int .i64 (S : Int)) rfl (Or.inl ⟨by rfl, fun W hW => by have hc := (HKN4.out W hW).1; go_simp⟩) hHeld ?_
    simp only [Act.put, sA, sZ, sS]
    refine tk 2 90 (.pointer (some ⟨G, 1, none⟩)) rfl hHeld ?_
    simp only [Act.put, sA, sZ, sS]
    refine tk 3 91 (.pointer (some ⟨G, 35, none⟩)) rfl hHeld ?_
    simp only [Act.put, sA, sZ, sS]
    refine tkY 4 92 (.int .i64 (PN : Int)) rfl (Or.inl ⟨by rfl, fun W hW => by have hc := HKP4.out W hW; go_simp⟩) hHeld ?_
    simp only [Act.put, sA, sZ, sS]
    refine wpAnyH_ready (rs := [5]) (by kernel_rfl) (by simp) (AllReadyH.cons (o := ⟨some 93, _, _, _, _, _⟩) rfl (fun K hK => ?_) AllReadyH.nil)
    go_simp
    refine (HPL.out _).mono ?_
    rintro e w5 ⟨rfl, rfl⟩
    refine hK.out _ _ (hHeld) (fun hHeld => ?_)
    clear hK K 
    refine tk 6 94 (.int .i64 (ck : Int)) rfl hHeld ?_
    simp only [Act.put, sA, sZ, sS]
    refine tk 7 12 (.int .i64 (ck : Int)) rfl hHeld ?_
    simp only [Act.put, sA, sZ, sS]
    refine wpAnyH_done (by kernel_rfl) ?_ _
    clear a1
    have HB5 := Lib.hid (HB4.out.trans (hHeld.mono HB4.out.size))
    have HP5 := Lib.hid (HP4.out.below HP4.out.lt hHeld)
    have HQ5 := Lib.hid (HQ4.out.below HQ4.out.lt hHeld)
    have HR5 := Lib.hid (HR4.out.below HR4.out.lt hHeld)
    obtain ⟨k40, k41, k39⟩ := HKN4.out X hHeld
    have k35 := HKP4.out X hHeld
    have k1 := HKC4.out X hHeld
    obtain ⟨h4, hh4⟩ : ∃ c, p + 10 = c := ⟨_, rfl⟩
    have a2 : IntKind.i64.wrap ((p : Int) + 10) = (h4 : Int) := by have := HCE.out; rw [IntKind.wrap_i64]; omega
    have HH4 := Lib.hid hh4
    have hhc : h4 + 2 ≤ len := by have := HCE.out; omega
    have a3 : IntKind.i64.wrap ((h4 : Int) + 1) = (h4 : Int) + 1 := by have := HCE.out; rw [IntKind.wrap_i64]; omega
    have a4 : IntKind.i64.wrap ((ck : Int) + 1) = (ck : Int) + 1 := by have := HCE.out; rw [IntKind.wrap_i64]; omega
    have t1 : (ck : Int) < (len : Int) := by have := HCE.out; omega
    have t2 : (ck : Int) + 1 < (len : Int) := by have := HCE.out; omega
    have t3 : ((ck : Int) + 1).toNat = ck + 1 := by omega
    have t4 : (h4 : Int) < (len : Int) := by omega
    have t5 : (h4 : Int) + 1 < (len : Int) := by omega
    have t6 : ((h4 : Int) + 1).toNat = h4 + 1 := by omega
    obtain ⟨fb, fo, hfa, hfx⟩ := (HRX.out X HB5.out).addr (by have := HCE.out; omega)
    have hr5 := HRX.out X HB5.out
    rw [hfa] at hr5
    have f0 := hr5.cellD (k := ck) (by have := HCE.out; omega)
    have f1 := hr5.cellD (k := ck + 1) (by have := HCE.out; omega)
    have f2 := hr5.cellD (k := h4) (by omega)
    have f3 := hr5.cellD (k := h4 + 1) (by omega)
    have HXB := Lib.hid (⟨batN_lt xs ck, batN_lt xs (ck + 1), batN_lt xs h4, batN_lt xs (h4 + 1)⟩ : batN xs ck < 256 ∧ batN xs (ck + 1) < 256 ∧ batN xs h4 < 256 ∧ batN xs (h4 + 1) < 256)
    have HW1 := Lib.hid (show wat xs ck = 256 * batN xs ck + batN xs (ck + 1) from rfl)
    have HW2 := Lib.hid (show wat xs h4 = 256 * batN xs h4 + batN xs (h4 + 1) from rfl)
    generalize batN xs ck = x0 at f0 HXB HW1
    generalize batN xs (ck + 1) = x1 at f1 HXB HW1
    generalize batN xs h4 = y0 at f2 HXB HW2
    generalize batN xs (h4 + 1) = y1 at f3 HXB HW2
    obtain ⟨bad, hbad⟩ : ∃ c, decide ((u = false ∧ x0 = 255 ∧ x1 = 255) ∨ (sx = false ∧ y0 = 255 ∧ y1 = 255)) = c := ⟨_, rfl⟩
    have HBAD := Lib.hid hbad
    clear hbad hh4 hhc hfx hr5
    subst hfa
    go_upto_region 8 with (fail)
    clear a2 k39 k40
    go_cut [138] from 22 (fun s wx => s = .bool bad ∧ wx = X)
    case first =>
      by_cases hu : u = true
      · skip
        cases hs : sx with
        | true =>
          have p6 : ((PN : Int) == 6) = false := by rw [← HPN.out, hu]; rfl
          have p6' : (PN == 6) = false := by rw [← HPN.out, hu]; rfl
          have HPF := Lib.hid (congrArg Value.bool ((decide_eq_false (fun h => h.elim (fun h => Bool.noConfusion (h.1.symm.trans hu)) (fun h => Bool.noConfusion (h.1.symm.trans hs)))).symm.trans HBAD.out))
          clear hu
          go_wp2_with fail
          go_meet
          case rel => exact ⟨HPF.out, rfl⟩
        | false =>
          by_cases hy0 : y0 = 255
          · by_cases hy1 : y1 = 255
            · skip
              have p6 : ((PN : Int) == 6) = false := by rw [← HPN.out, hu]; rfl
              have p6' : (PN == 6) = false := by rw [← HPN.out, hu]; rfl
              have qy0 : ((y0 : Int) == 255) = true := by subst hy0; rfl
              have ry0 : (y0 == 255) = true := by simp [hy0]
              have qy1 : ((y1 : Int) == 255) = true := by subst hy1; rfl
              have ry1 : (y1 == 255) = true := by simp [hy1]
              have HPF := Lib.hid (congrArg Value.bool ((decide_eq_true (Or.inr ⟨hs, hy0, hy1⟩)).symm.trans HBAD.out))
              clear hy0
              clear hy1
              clear hu
              skip
              go_wp2_with fail
              go_meet
              case rel => exact ⟨HPF.out, rfl⟩
            · skip
              have p6 : ((PN : Int) == 6) = false := by rw [← HPN.out, hu]; rfl
              have p6' : (PN == 6) = false := by rw [← HPN.out, hu]; rfl
              have qy0 : ((y0 : Int) == 255) = true := by subst hy0; rfl
              have ry0 : (y0 == 255) = true := by simp [hy0]
              have qy1 : ((y1 : Int) == 255) = false := by simp; omega
              have ry1 : (y1 == 255) = false := by simp [hy1]
              have HPF := Lib.hid (congrArg Value.bool ((decide_eq_false (fun h => h.elim (fun h => Bool.noConfusion (h.1.symm.trans hu)) (fun h => hy1 h.2.2))).symm.trans HBAD.out))
              clear hy0
              clear hy1
              clear hu
              skip
              go_wp2_with fail
              go_meet
              case rel => exact ⟨HPF.out, rfl⟩
          · skip
            have p6 : ((PN : Int) == 6) = false := by rw [← HPN.out, hu]; rfl
            have p6' : (PN == 6) = false := by rw [← HPN.out, hu]; rfl
            have qy0 : ((y0 : Int) == 255) = false := by simp; omega
            have ry0 : (y0 == 255) = false := by simp [hy0]
            have HPF := Lib.hid (congrArg Value.bool ((decide_eq_false (fun h => h.elim (fun h => Bool.noConfusion (h.1.symm.trans hu)) (fun h => hy0 h.2.1))).symm.trans HBAD.out))
            clear hy0
            clear hu
            skip
            go_wp2_with fail
            go_meet
            case rel => exact ⟨HPF.out, rfl⟩
      · have hu : u = false := by cases u; rfl; exact absurd rfl hu
        by_cases hx0 : x0 = 255
        · by_cases hx1 : x1 = 255
          · skip
            have p6 : ((PN : Int) == 6) = true := by rw [← HPN.out, hu]; rfl
            have p6' : (PN == 6) = true := by rw [← HPN.out, hu]; rfl
            have qx0 : ((x0 : Int) == 255) = true := by subst hx0; rfl
            have rx0 : (x0 == 255) = true := by simp [hx0]
            have qx1 : ((x1 : Int) == 255) = true := by subst hx1; rfl
            have rx1 : (x1 == 255) = true := by simp [hx1]
            have HPF := Lib.hid (congrArg Value.bool ((decide_eq_true (Or.inl ⟨hu, hx0, hx1⟩)).symm.trans HBAD.out))
            clear hx0
            clear hx1
            clear hu
            go_wp2_with fail
            go_meet
            case rel => exact ⟨HPF.out, rfl⟩
          · skip
            cases hs : sx with
            | true =>
              have p6 : ((PN : Int) == 6) = true := by rw [← HPN.out, hu]; rfl
              have p6' : (PN == 6) = true := by rw [← HPN.out, hu]; rfl
              have qx0 : ((x0 : Int) == 255) = true := by subst hx0; rfl
              have rx0 : (x0 == 255) = true := by simp [hx0]
              have qx1 : ((x1 : Int) == 255) = false := by simp; omega
              have rx1 : (x1 == 255) = false := by simp [hx1]
              have HPF := Lib.hid (congrArg Value.bool ((decide_eq_false (fun h => h.elim (fun h => hx1 h.2.2) (fun h => Bool.noConfusion (h.1.symm.trans hs)))).symm.trans HBAD.out))
              clear hx0
              clear hx1
              clear hu
              go_wp2_with fail
              go_meet
              case rel => exact ⟨HPF.out, rfl⟩
            | false =>
              by_cases hy0 : y0 = 255
              · by_cases hy1 : y1 = 255
                · skip
                  have p6 : ((PN : Int) == 6) = true := by rw [← HPN.out, hu]; rfl
                  have p6' : (PN == 6) = true := by rw [← HPN.out, hu]; rfl
                  have qx0 : ((x0 : Int) == 255) = true := by subst hx0; rfl
                  have rx0 : (x0 == 255) = true := by simp [hx0]
                  have qx1 : ((x1 : Int) == 255) = false := by simp; omega
                  have rx1 : (x1 == 255) = false := by simp [hx1]
                  have qy0 : ((y0 : Int) == 255) = true := by subst hy0; rfl
                  have ry0 : (y0 == 255) = true := by simp [hy0]
                  have qy1 : ((y1 : Int) == 255) = true := by subst hy1; rfl
                  have ry1 : (y1 == 255) = true := by simp [hy1]
                  have HPF := Lib.hid (congrArg Value.bool ((decide_eq_true (Or.inr ⟨hs, hy0, hy1⟩)).symm.trans HBAD.out))
                  clear hx0
                  clear hx1
                  clear hy0
                  clear hy1
                  clear hu
                  skip
                  go_wp2_with fail
                  go_meet
                  case rel => exact ⟨HPF.out, rfl⟩
                · skip
                  have p6 : ((PN : Int) == 6) = true := by rw [← HPN.out, hu]; rfl
                  have p6' : (PN == 6) = true := by rw [← HPN.out, hu]; rfl
                  have qx0 : ((x0 : Int) == 255) = true := by subst hx0; rfl
                  have rx0 : (x0 == 255) = true := by simp [hx0]
                  have qx1 : ((x1 : Int) == 255) = false := by simp; omega
                  have rx1 : (x1 == 255) = false := by simp [hx1]
                  have qy0 : ((y0 : Int) == 255) = true := by subst hy0; rfl
                  have ry0 : (y0 == 255) = true := by simp [hy0]
                  have qy1 : ((y1 : Int) == 255) = false := by simp; omega
                  have ry1 : (y1 == 255) = false := by simp [hy1]
                  have HPF := Lib.hid (congrArg Value.bool ((decide_eq_false (fun h => h.elim (fun h => hx1 h.2.2) (fun h => hy1 h.2.2))).symm.trans HBAD.out))
                  clear hx0
                  clear hx1
                  clear hy0
                  clear hy1
                  clear hu
                  skip
                  go_wp2_with fail
                  go_meet
                  case rel => exact ⟨HPF.out, rfl⟩
              · skip
                have p6 : ((PN : Int) == 6) = true := by rw [← HPN.out, hu]; rfl
                have p6' : (PN == 6) = true := by rw [← HPN.out, hu]; rfl
                have qx0 : ((x0 : Int) == 255) = true := by subst hx0; rfl
                have rx0 : (x0 == 255) = true := by simp [hx0]
                have qx1 : ((x1 : Int) == 255) = false := by simp; omega
                have rx1 : (x1 == 255) = false := by simp [hx1]
                have qy0 : ((y0 : Int) == 255) = false := by simp; omega
                have ry0 : (y0 == 255) = false := by simp [hy0]
                have HPF := Lib.hid (congrArg Value.bool ((decide_eq_false (fun h => h.elim (fun h => hx1 h.2.2) (fun h => hy0 h.2.1))).symm.trans HBAD.out))
                clear hx0
                clear hx1
                clear hy0
                clear hu
                skip
                go_wp2_with fail
                go_meet
                case rel => exact ⟨HPF.out, rfl⟩
        · skip
          cases hs : sx with
          | true =>
            have p6 : ((PN : Int) == 6) = true := by rw [← HPN.out, hu]; rfl
            have p6' : (PN == 6) = true := by rw [← HPN.out, hu]; rfl
            have qx0 : ((x0 : Int) == 255) = false := by simp; omega
            have rx0 : (x0 == 255) = false := by simp [hx0]
            have HPF := Lib.hid (congrArg Value.bool ((decide_eq_false (fun h => h.elim (fun h => hx0 h.2.1) (fun h => Bool.noConfusion (h.1.symm.trans hs)))).symm.trans HBAD.out))
            clear hx0
            clear hu
            go_wp2_with fail
            go_meet
            case rel => exact ⟨HPF.out, rfl⟩
          | false =>
            by_cases hy0 : y0 = 255
            · by_cases hy1 : y1 = 255
              · skip
                have p6 : ((PN : Int) == 6) = true := by rw [← HPN.out, hu]; rfl
                have p6' : (PN == 6) = true := by rw [← HPN.out, hu]; rfl
                have qx0 : ((x0 : Int) == 255) = false := by simp; omega
                have rx0 : (x0 == 255) = false := by simp [hx0]
                have qy0 : ((y0 : Int) == 255) = true := by subst hy0; rfl
                have ry0 : (y0 == 255) = true := by simp [hy0]
                have qy1 : ((y1 : Int) == 255) = true := by subst hy1; rfl
                have ry1 : (y1 == 255) = true := by simp [hy1]
                have HPF := Lib.hid (congrArg Value.bool ((decide_eq_true (Or.inr ⟨hs, hy0, hy1⟩)).symm.trans HBAD.out))
                clear hx0
                clear hy0
                clear hy1
                clear hu
                skip
                go_wp2_with fail
                go_meet
                case rel => exact ⟨HPF.out, rfl⟩
              · skip
                have p6 : ((PN : Int) == 6) = true := by rw [← HPN.out, hu]; rfl
                have p6' : (PN == 6) = true := by rw [← HPN.out, hu]; rfl
                have qx0 : ((x0 : Int) == 255) = false := by simp; omega
                have rx0 : (x0 == 255) = false := by simp [hx0]
                have qy0 : ((y0 : Int) == 255) = true := by subst hy0; rfl
                have ry0 : (y0 == 255) = true := by simp [hy0]
                have qy1 : ((y1 : Int) == 255) = false := by simp; omega
                have ry1 : (y1 == 255) = false := by simp [hy1]
                have HPF := Lib.hid (congrArg Value.bool ((decide_eq_false (fun h => h.elim (fun h => hx0 h.2.1) (fun h => hy1 h.2.2))).symm.trans HBAD.out))
                clear hx0
                clear hy0
                clear hy1
                clear hu
                skip
                go_wp2_with fail
                go_meet
                case rel => exact ⟨HPF.out, rfl⟩
            · skip
              have p6 : ((PN : Int) == 6) = true := by rw [← HPN.out, hu]; rfl
              have p6' : (PN == 6) = true := by rw [← HPN.out, hu]; rfl
              have qx0 : ((x0 : Int) == 255) = false := by simp; omega
              have rx0 : (x0 == 255) = false := by simp [hx0]
              have qy0 : ((y0 : Int) == 255) = false := by simp; omega
              have ry0 : (y0 == 255) = false := by simp [hy0]
              have HPF := Lib.hid (congrArg Value.bool ((decide_eq_false (fun h => h.elim (fun h => hx0 h.2.1) (fun h => hy0 h.2.1))).symm.trans HBAD.out))
              clear hx0
              clear hy0
              clear hu
              skip
              go_wp2_with fail
              go_meet
              case rel => exact ⟨HPF.out, rfl⟩
    case rest =>
      obtain ⟨rfl, rfl⟩ := hcut
      clear a3 a4 t1 t2 t3 t4 t5 t6 f0 f1 f2 f3 k41 k35 k1
      cases bad with
      | true =>
        go_wp2_with fail
        go_ret
        exact ⟨rfl, HB5.out⟩
      | false =>
      have hnb := of_decide_eq_false HBAD.out
      obtain ⟨z, N, hA, hS, hE, hl⟩ : ∃ z N, AtF xs z sx N p u ∧ p + N.head = S ∧ p + N.total = E ∧ N.total - N.head = l := ⟨z, N, HA.out, HSS.out, HEE.out, HLL.out⟩
      have hz1 : wat z (p + N.head + plc u) = wat xs ck := by rw [hA.zt, wat_take (by have := HCE.out; have := HCK.out; omega), hS, HCK.out]
      have hz2 : wat z (p + 10) = wat xs h4 := by rw [hA.zt, wat_take (by have := HCE.out; omega), HH4.out]
      obtain ⟨q0, q1, q2, q3⟩ := HXB.out
      have ht : Tame z sx N p u := by
        refine ⟨fun h => ?_, ?_⟩
        · rw [hz2, HW2.out]
          have : ¬ (y0 = 255 ∧ y1 = 255) := fun h' => hnb (Or.inr ⟨h, h'.1, h'.2⟩)
          omega
        · rw [hz1, HW1.out]
          by_cases h0 : u = true ∧ 256 * x0 + x1 = 0
          · exact .inl h0
          · refine .inr ⟨by omega, fun h => ?_, fun h => ?_⟩
            · have : ¬ 256 * x0 + x1 = 0 := fun h' => h0 ⟨h, h'⟩
              omega
            · have : ¬ (x0 = 255 ∧ x1 = 255) := fun h' => hnb (Or.inl ⟨h, h'.1, h'.2⟩)
              omega
      obtain ⟨_, m0, m1⟩ := (mayN_yes HKA.out).2
      obtain ⟨_, n0, n1⟩ := (mayN_yes HKB.out).2
      have hk0 := (mayN_yes HKA.out).1
      have tw1 := hA.twice ht HAL.out HBL.out HO1.out m0 m1 (k := n) true
      have hdd := HOK.out.d
      have tw2 := hA.twice ht HBL.out hdd HP1.out n0 n1 (k := k.t.dp) true
      have sm := hA.same ht true
      rw [HK.out] at sm
      have sm2 : natL xs k.t.d k.t.dp true = z := sm
      rw [sm2] at tw2
      obtain ⟨X1, hX1⟩ : ∃ L, natL xs a m true = L := ⟨_, rfl⟩
      obtain ⟨Y1, hY1⟩ : ∃ L, natL xs b n true = L := ⟨_, rfl⟩
      have lx : X1.length = E := by rw [← hX1, hA.len, hE]
      have ly : Y1.length = E := by rw [← hY1, hA.len, hE]
      have lz : z.length = E := by rw [hA.l, hE]
      rw [hX1, hY1] at tw1
      rw [hY1] at tw2
      have mx : mayN (readK X1) b n = true := by rw [← hX1, nat_read HAL.out HKA.out true, may_turn]; exact HKB.out
      have my : mayN (readK Y1) k.t.d k.t.dp = true := by
        rw [← hY1, nat_read HBL.out HKB.out true, may_turn]
        obtain ⟨w1, w2, w3⟩ := HOWN.out
        rw [HK.out] at w1 w2 w3 hk0 ⊢
        unfold mayN
        rw [w1, hk0, decide_eq_true (show 0 ≤ k.t.dp ∧ k.t.dp ≤ 65535 from ⟨w2, w3⟩)]
        rfl
      have hzt : xs.take E = z := by rw [hA.zt, hE]
      have MX := Lib.hid mx
      have MY := Lib.hid my
      have TW1 := Lib.hid tw1
      have TW2 := Lib.hid tw2
      have LX := Lib.hid lx
      have LY := Lib.hid ly
      have LZ := Lib.hid lz
      have HX1 := Lib.hid hX1
      have HY1 := Lib.hid hY1
      have HZT := Lib.hid hzt
      have HKD5 := Lib.hid (pk_i37 HOK.out)
      have LE := Lib.hid (show E ≤ 3000 ∧ E ≤ len ∧ E ≤ cap from ⟨by have := HCE.out; omega, by have := HCE.out; omega, by have := HCE.out; have := HCA.out; omega⟩)
      have T1 := Lib.hid (nto_any HAL.out (m := m) (by have := HCE.out; omega) HCA.out HMA.out wc (HRX.out wc HB5.out))
      rw [E1.out] at T1
      clear hnb hA hS hE hl hz1 hz2 q0 q1 q2 q3 ht m0 m1 n0 n1 hk0 tw1 hdd tw2 sm sm2 hX1 hY1 lx ly lz mx my hzt HBAD HXB HW1 HW2
      go_wp2_with (((with_reducible show wpList _ _ _ (⟨some 141, _, _, _, _, _⟩ :: _) _ _); refine wpList_loadM (op := ⟨some 141, _, _, _, _, _⟩) 25 _ rfl (by rfl) (w.heap.size) 0 (by rfl) (adL a) (Blk_10.range HQ5.out) _ Try.underlying25 rfl (sizeAdL HAL.out) ?_; rw [HC1.out]))
      refine T1.out.mono ?_
      rintro e w6 ⟨_, hy, hb6⟩
      obtain ⟨v, rfl, ho⟩ := hy HKA.out
      rw [HX1.out] at ho
      obtain ⟨Ax, cx, rfl, hx1, hx2, hxr⟩ := ho.formN LX.out
      have HOX6 := Lib.hid ho
      have HB6 := Lib.hid (HB5.out.trans (hb6.mono HB5.out.size))
      have HP6 := Lib.hid (HP5.out.below HP5.out.lt hb6)
      have HQ6 := Lib.hid (HQ5.out.below HQ5.out.lt hb6)
      have HR6 := Lib.hid (HR5.out.below HR5.out.lt hb6)
      have T2 := Lib.hid (nto_any HBL.out (m := n) (by have := LE.out; omega) hx1 hx2 w6 hxr)
      rw [E2.out] at T2
      clear hy ho hx1 hx2 hxr hb6 T1
      go_wp2_with (((with_reducible show wpList _ _ _ (⟨some 148, _, _, _, _, _⟩ :: _) _ _); refine wpList_loadM (op := ⟨some 148, _, _, _, _, _⟩) 25 _ rfl (by rfl) (w.heap.size + 1) 0 (by rfl) (adL b) (Blk_10.range HR6.out) _ Try.underlying25 rfl (sizeAdL HBL.out) ?_; rw [HC2.out]))
      refine T2.out.mono ?_
      rintro e w7 ⟨_, hy, hb7⟩
      obtain ⟨v, rfl, ho⟩ := hy MX.out
      rw [TW1.out] at ho
      obtain ⟨Ay, cy, rfl, hy1, hy2, hyr⟩ := ho.formN LY.out
      have HOY7 := Lib.hid ho
      have HB7 := Lib.hid (HB6.out.trans (hb7.mono HB6.out.size))
      have HP7 := Lib.hid (HP6.out.below HP6.out.lt hb7)
      have HQ7 := Lib.hid (HQ6.out.below HQ6.out.lt hb7)
      have HR7 := Lib.hid (HR6.out.below HR6.out.lt hb7)
      have T3 := Lib.hid (nto_any HOK.out.d (m := k.t.dp) (by have := LE.out; omega) hy1 hy2 w7 hyr)
      have d37 : w7.cell? ⟨G, 37, none⟩ = some (.int .i64 k.t.dp) := Blk_10.cell HP7.out HKD5.out
      clear hy ho hy1 hy2 hyr hb7 T2
      go_wp2_with (((with_reducible show wpList _ _ _ (⟨some 157, _, _, _, _, _⟩ :: _) _ _); refine wpList_loadM (op := ⟨some 157, _, _, _, _, _⟩) 25 _ rfl (by rfl) G 18 (by rfl) (adL k.t.d) (Blk_10.mid HP7.out (pk_dst k) (by rw [List.length_cons, adL_len HOK.out.s])) _ Try.underlying25 rfl (sizeAdL HOK.out.d) ?_))
      refine T3.out.mono ?_
      rintro e w8 ⟨_, hy, hb8⟩
      obtain ⟨v, rfl, ho⟩ := hy MY.out
      rw [TW2.out] at ho
      obtain ⟨Az, cz, rfl, _, _, _⟩ := ho.formN LZ.out
      have HOZ8 := Lib.hid ho
      have HB8 := Lib.hid (HB7.out.trans (hb8.mono HB7.out.size))
      have HP8 := Lib.hid (HP7.out.below HP7.out.lt hb8)
      have HQ8 := Lib.hid (HQ7.out.below HQ7.out.lt hb8)
      have HR8 := Lib.hid (HR7.out.below HR7.out.lt hb8)
      have HOY8 := Lib.hid (HOY7.out.below hb8)
      have T4 := Lib.hid (nto_any HBL.out (m := n) (by have := HCE.out; omega) HCA.out HMA.out w8 (HRX.out w8 HB8.out))
      rw [E2.out] at T4
      clear hy ho hb8 T3 d37
      go_wp2_with (((with_reducible show wpList _ _ _ (⟨some 166, _, _, _, _, _⟩ :: _) _ _); refine wpList_loadM (op := ⟨some 166, _, _, _, _, _⟩) 25 _ rfl (by rfl) (w.heap.size + 1) 0 (by rfl) (adL b) (Blk_10.range HR8.out) _ Try.underlying25 rfl (sizeAdL HBL.out) ?_; rw [HC2.out]))
      refine T4.out.mono ?_
      rintro e w9 ⟨_, hy, hb9⟩
      obtain ⟨v, rfl, ho⟩ := hy HKB.out
      rw [HY1.out] at ho
      obtain ⟨Av, cv, rfl, _, _, hvr⟩ := ho.formN LY.out
      have HOZ9 := Lib.hid (HOZ8.out.below hb9)
      have HOY9 := Lib.hid (HOY8.out.below hb9)
      have HP9 := Lib.hid (HP8.out.below HP8.out.lt hb9)
      have HB9 := Lib.hid (HB8.out.trans (hb9.mono HB8.out.size))
      have S1 := Lib.hid (same_any w9 cz cap (HOZ9.out.rdN LZ.out).2.2 (HZT.out ▸ (HRX.out w9 HB9.out).take (k := E) LE.out.2.1))
      have S2 := Lib.hid (same_any w9 cy cv (HOY9.out.rdN LY.out).2.2 hvr)
      have d41 : w9.cell? ⟨G, 41, none⟩ = some (.int .i64 (E : Int)) := by
        have := (pk_cells HP9.out HOK.out).2.2.2.2
        rw [this, HKEN.out]
      have hup := run_upto8 (some ⟨fb, fo, none⟩) len cap E (E : Int) rfl (by have := LE.out; omega)
      clear hy ho hb9 hvr T4
      go_wp2_with fail
      refine S1.out.mono ?_
      rintro e w' ⟨rfl, rfl⟩
      go_wp2_with fail
      refine S2.out.mono ?_
      rintro e w' ⟨rfl, rfl⟩
      go_wp2_with fail
      go_ret
      exact ⟨rfl, HB9.out⟩

theorem natBack_walks : WalksTrue 7 Try.f7 := by
  intro H enc W base args ds p hval hA
  rw [Try.params7] at hA hval
  obtain ⟨v0, vs0, d0, ds0, p0, q0, hargs, rfl, rfl, h0, r0⟩ := trodAll_cons hA
  obtain ⟨v1, vs1, d1, ds1, p1, q1, rfl, rfl, rfl, h1, r1⟩ := trodAll_cons r0
  obtain ⟨v2, vs2, d2, ds2, p2, q2, rfl, rfl, rfl, h2, r2⟩ := trodAll_cons r1
  obtain ⟨v3, vs3, d3, ds3, p3, q3, rfl, rfl, rfl, h3, r3⟩ := trodAll_cons r2
  obtain ⟨v4, vs4, d4, ds4, p4, q4, rfl, rfl, rfl, h4, r4⟩ := trodAll_cons r3
  obtain ⟨rfl, rfl, rfl⟩ := trodAll_nil r4
  obtain rfl : args = #[v0, v1, v2, v3, v4] := by cases args; simp_all
  obtain ⟨A0, len0, cap0, xs0, rfl, hc0, hm0, hI0⟩ := open_bytes (hval 0 22 v0 rfl rfl) h0
  obtain ⟨d1_, rfl, l1⟩ := open_ad (hval 1 25 v1 rfl rfl) h1
  obtain ⟨a2, rfl, rfl, rfl, w2⟩ := open_int Try.underlying3 (hval 2 3 v2 rfl rfl) h2
  obtain ⟨g2a, g2b⟩ := range_i64 w2
  obtain ⟨d3_, rfl, l3⟩ := open_ad (hval 3 25 v3 rfl rfl) h3
  obtain ⟨a4, rfl, rfl, rfl, w4⟩ := open_int Try.underlying3 (hval 4 3 v4 rfl rfl) h4
  obtain ⟨g4a, g4b⟩ := range_i64 w4
  exact natBack_walk A0 len0 cap0 xs0 hc0 hm0 d1_ l1 a2 g2a g2b d3_ l3 a4 g4a g4b W hI0

theorem natBack_said : Rows.NatBackSaid :=
  OpenClaim.holds_of_wide 7 Try.f7 rfl rfl rfl rfl rfl rfl rfl ⟨rfl, rfl, rfl, rfl, rfl⟩ rfl rfl rfl rfl rfl (by kernel_rfl) Try.func7 (by kernel_rfl)
    (of_decide_eq_true (by kernel_rfl)) (by unfold Func.isWrapper; first | (rw [if_pos (by decide +kernel)]; kernel_rfl) | (rw [if_neg (by decide +kernel)]; exact ⟨rfl, rfl⟩))
    (fun os started H enc _ => law_lift (s := Rows.natBackSpec) Try.func7 (by kernel_rfl) rfl rfl (by intro H ds hd; match ds, hd with | [_, _, _, _, _], _ => exact ⟨rfl, rfl, rfl⟩) (by kernel_rfl) natBack_walks os started H enc
      (ChangeSpec.witness6 (enc := enc) (C := Try.checked) false ⟨#[], #[.slice none 0 0, .agg #[.bool false, .int .u8 0, .int .u8 0, .int .u8 0, .int .u8 0, .int .u8 0, .int .u8 0, .int .u8 0, .int .u8 0, .int .u8 0, .int .u8 0, .int .u8 0, .int .u8 0, .int .u8 0, .int .u8 0, .int .u8 0, .int .u8 0], .int .i64 0, .agg #[.bool false, .int .u8 0, .int .u8 0, .int .u8 0, .int .u8 0, .int .u8 0, .int .u8 0, .int .u8 0, .int .u8 0, .int .u8 0, .int .u8 0, .int .u8 0, .int .u8 0, .int .u8 0, .int .u8 0, .int .u8 0, .int .u8 0], .int .i64 0], []⟩ 8 (by kernel_rfl) (by kernel_rfl) (by kernel_rfl) (by kernel_rfl)))

end Go.Proofs.Ytkmcopenflakkaa
