/-
  The document's Of: a name's offset and skip.
-/
import Derived.Test.YtmngagcekhlppaaJRef
import Derived.Test.YtmngagcekhlppaaJConv
import Derived.Test.YtmngagcekhlppaaHROf
import Derived.Test.YtmngagcekhlppaaTK
namespace Go.Proofs.Ytmngagcekhlppaa
set_option maxRecDepth 100000
open Go.RowKit Go.Lib
theorem cut_of {goal : Prop} {H : World → Option Addr → Nat → Prop} {M : World → Nat → Nat → Nat → Option Addr → Nat → Prop} (h1 : (∀ W g C b A c, H W A c → M W g C b A c) → goal) (h2 : ∀ W g C b A c, H W A c → M W g C b A c) : goal := h1 h2
theorem wi64 {z : Int} (h0 : -9223372036854775808 ≤ z) (h1 : z ≤ 9223372036854775807) : IntKind.i64.wrap z = z := by
  rw [IntKind.wrap_i64]
  omega
theorem size16p : (Try.prog.info? 22).map (·.size) = some 16 := by kernel_rfl
theorem keyp_size {key : List UInt8} (h : key.length = 16) : (Try.prog.info? 22).map (·.size) = some (key.map v8).length := by rw [List.length_map, h]; exact size16p
theorem yields_keyp {ops : Array Oper} {S : World → Prop} {op : Oper} {a : Act} (hw : Region.wanted op (yielded ops a.tmps) = true) (x : Operand) (ho : op.op = .load 22 x) (g : Nat) (hx : a.eval x = .pointer (some ⟨g, 0, none⟩)) (key : List UInt8) (hk : key.length = 16)
    (hS : ∀ w, S w → Blk w 22 g (key.map v8)) : YieldsIf Try.prog ops S op (keyC key) a :=
  yieldsIf_load_mid hw 22 x ho g 0 hx (key.map v8) _ (fun w h => Blk_10.range (hS w h)) Try.underlying22 rfl (keyp_size hk)
set_option maxHeartbeats 8000000 in
theorem jrof_any (key : List UInt8) (hk : key.length = 16) (s : ByteArray) (hs : s.size ≤ 1000) (p : Nat) (hp : SizeN p) (w : World) :
    Calls Try.prog 24 #[keyC key, .string s, .int .i64 (p : Int)] w fun e w' => e = .returned (.tuple #[.int .i64 (offN key s.data.toList p : Nat), .int .i64 (skN key s.data.toList p : Nat)]) ∧ Below w.heap.size w w' := by
  have hp2 := hp.two
  have hpm := hp.most
  obtain ⟨C0, hC0⟩ : ∃ C, (key.map v8).toArray = C := ⟨_, rfl⟩
  obtain ⟨Y, hY⟩ : ∃ Y, w.alloc (.cells C0 22) = Y := ⟨_, rfl⟩
  have HK0 := Lib.hid (show Blk Y 22 w.heap.size (key.map v8) by rw [← hY, ← hC0]; exact Blk_10.new w _ _)
  have HB0 := Lib.hid (show Below w.heap.size w Y by rw [← hY]; exact (Below.refl w.heap.size w).alloc (Nat.le_refl _) _)
  have HY := Lib.hid hY
  have HKE : Hid (keyC key = .agg C0) := Lib.hid (by rw [← hC0]; rfl)
  rw [HKE.out]
  have HKL := Lib.hid hk
  clear hY hC0 hk
  obtain ⟨n, hn⟩ : ∃ n, s.size = n := ⟨_, rfl⟩
  have hn2 : n ≤ 1000 := by omega
  have HM := Lib.hid (show n ≤ maxLen by unfold maxLen; omega)
  have HCV := Lib.hid (fun W => run_conv8 s W)
  rw [hn] at HCV
  have HLEN := Lib.hid (show s.data.toList.length = n from hn)
  obtain ⟨nb, hnb⟩ : ∃ l, s.data.toList = l := ⟨_, rfl⟩
  rw [hnb] at HCV HLEN
  rw [hnb]
  have HOf := Lib.hid (fun (b : UInt8) (A : Option Addr) (c : Nat) (W : World) (h : Rd W W.heap.size A (n + 1) (nb ++ [b])) => hrof_any key HKL.out A (n + 1) c (nb ++ [b]) (by omega) W h)
  have l0 := hashW_lt HKL.out (nb ++ [0])
  have l1 := hashW_lt HKL.out (nb ++ [1])
  have HOF : Hid (offN key nb p = hashW key (nb ++ [0]) % p) := Lib.hid rfl
  have HSK : Hid (skN key nb p = hashW key (nb ++ [1]) % (p - 1) + 1) := Lib.hid rfl
  have HO0 := Lib.hid (HOf.out 0)
  have HO1 := Lib.hid (HOf.out 1)
  obtain ⟨h0, hh0⟩ : ∃ h, hashW key (nb ++ [0]) = h := ⟨_, rfl⟩
  obtain ⟨h1, hh1⟩ : ∃ h, hashW key (nb ++ [1]) = h := ⟨_, rfl⟩
  rw [hh0] at HO0 HOF l0
  rw [hh1] at HO1 HSK l1
  clear hh0 hh1 hn hnb HOf hs
  have m0 : (h0 : Int) % (p : Int) = ((h0 % p : Nat) : Int) := by rw [Int.natCast_emod]
  have m1 : (h1 : Int) % ((p : Int) - 1) = ((h1 % (p - 1) : Nat) : Int) := by rw [Int.natCast_emod, Int.natCast_sub (by omega)]; rfl
  have q0 : h0 % p < p := Nat.mod_lt _ (by omega)
  have q1 : h1 % (p - 1) < p - 1 := Nat.mod_lt _ (by omega)
  obtain ⟨r0, hr0⟩ : ∃ r, h0 % p = r := ⟨_, rfl⟩
  obtain ⟨r1, hr1⟩ : ∃ r, h1 % (p - 1) = r := ⟨_, rfl⟩
  rw [hr0] at m0 HOF q0
  rw [hr1] at m1 HSK q1
  rw [HOF.out, HSK.out]
  clear hr0 hr1
  have M0 := Lib.hid m0
  have M1 := Lib.hid m1
  clear m0 m1
  have HN2 := Lib.hid hn2
  go_enter Try.func24, Try.ntmps24
  go_wp2_with fail
  rw [HY.out]
  apply cut_of (H := fun W A c => Below Y.heap.size Y W)
  case h1 =>
    intro hc
    refine wp_region_held_drew (S := fun W => Below Y.heap.size Y W) (by kernel_rfl) ((Below.refl _ _).drew) (fun hHeld => ?_)
    obtain ⟨X1, hX⟩ : ∃ X, Y.drew = X := ⟨_, rfl⟩
    rw [hX] at hHeld ⊢
    clear hX
    refine tkY 0 10 (keyC key) rfl (yields_keyp (by rfl) _ rfl w.heap.size rfl key HKL.out (fun W hW => Blk_10.below HK0.out (Blk_10.lt HK0.out) hW)) hHeld ?_
    simp only [Act.put, sA, sZ, sS]
    refine tk 1 11 (.string s) rfl hHeld ?_
    simp only [Act.put, sA, sZ, sS]
    refine wpAnyH_ready (rs := [2, 3]) (by kernel_rfl) (by simp) (AllReadyH.cons (o := ⟨some 12, _, _, _, _, _⟩) rfl (fun K hK => ?_) (AllReadyH.cons (o := ⟨some 13, _, _, _, _, _⟩) rfl (fun K hK => ?_) AllReadyH.nil))
    · obtain ⟨C1, hcv, hca⟩ := HCV.out X1
      have hbc := below_conv hHeld (hHeld.size) s
      have hgz : X1.heap.size < (bytesWorld X1 5 s).heap.size := by rw [bytesWorld_size]; exact Nat.lt_succ_self _
      have hgb := hHeld.size
      go_simp
      have HCA := Lib.hid (hca HM.out)
      have HBC := Lib.hid hbc
      have HGB := Lib.hid hgb
      have HGZ := Lib.hid hgz
      clear hcv hca hbc hgb hgz
      generalize bytesWorld X1 5 s = W1 at HCA HBC HGZ ⊢
      generalize X1.heap.size = g1 at HCA HGB HGZ ⊢
      refine hK.out _ _ (HBC.out) (fun hHeld => ?_)
      clear hK K 
      refine wpAnyH_ready (rs := [3]) (by kernel_rfl) (by simp) (AllReadyH.cons (o := ⟨some 13, _, _, _, _, _⟩) rfl (fun K hK => ?_) AllReadyH.nil)
      go_simp
      have HLA := Lib.hid (show (W1.alloc (.cells #[.int .u8 0] 5)).heap[W1.heap.size]? = some (.cells #[v8 0] 5 (0, 0)) from heap_alloc_new W1 _)
      have HBB := Lib.hid (hHeld.alloc hHeld.size (.cells #[.int .u8 0] 5))
      have hls : W1.heap.size < (W1.alloc (.cells #[.int .u8 0] 5)).heap.size := by rw [World.size_alloc]; exact Nat.lt_succ_self _
      have HLS := Lib.hid hls
      clear hls
      have HCC := Lib.hid (HCA.out.below ((Below.refl W1.heap.size W1).alloc (Nat.le_refl _) (.cells #[.int .u8 0] 5)) HGZ.out)
      have HLL := HLA
      have HGG := HGB
      clear HCA HLA HGB HBC HGZ HLS
      generalize W1.alloc (.cells #[.int .u8 0] 5) = V1 at HCC HLL HBB ⊢
      generalize W1.heap.size = b1 at HLL ⊢
      refine hK.out _ _ (HBB.out) (fun hHeld => ?_)
      clear hK K 
      refine wpAnyH_ready (rs := [4]) (by kernel_rfl) (by simp) (AllReadyH.cons (o := ⟨some 14, _, _, _, _, _⟩) rfl (fun K hK => ?_) AllReadyH.nil)
      refine step_append_conv rfl (.tmp 12) (.tmp 13) rfl g1 n C1 nb (by rfl) HCC.out (Nat.le_trans HN2.out (by decide)) 0 b1 (by rfl) HLL.out ?_
      intro Aa ca wa hc1 hc2 hr hbb
      have HBA := Lib.hid (hbb _ _ hHeld HGG.out)
      have HRA := Lib.hid hr
      clear hc1 hc2 hr hbb
      refine hK.out _ _ (HBA.out) (fun hHeld => ?_)
      clear hK K 
      refine wpAnyH_ready (rs := [5]) (by kernel_rfl) (by simp) (AllReadyH.cons (o := ⟨some 15, _, _, _, _, _⟩) rfl (fun K hK => ?_) AllReadyH.nil)
      go_simp
      refine (HO0.out Aa ca wa HRA.out).mono ?_
      rintro e wb ⟨rfl, hb⟩
      have HBZ := Lib.hid (hHeld.trans (hb.mono hHeld.size))
      refine hK.out _ _ (HBZ.out) (fun hHeld => ?_)
      clear hK K hb
      refine tk 6 8 (.int .u64 (h0 : Int)) rfl hHeld ?_
      simp only [Act.put, sA, sZ, sS]
      refine wpAnyH_done (by kernel_rfl) ?_ _
      exact hc wb g1 C1 b1 Aa ca hHeld
    · go_simp
      have HLA := Lib.hid (show (X1.alloc (.cells #[.int .u8 0] 5)).heap[X1.heap.size]? = some (.cells #[v8 0] 5 (0, 0)) from heap_alloc_new X1 _)
      have HBB := Lib.hid (hHeld.alloc hHeld.size (.cells #[.int .u8 0] 5))
      have hls : X1.heap.size < (X1.alloc (.cells #[.int .u8 0] 5)).heap.size := by rw [World.size_alloc]; exact Nat.lt_succ_self _
      have HLS := Lib.hid hls
      clear hls
      generalize X1.alloc (.cells #[.int .u8 0] 5) = V1 at HLA HBB HLS ⊢
      generalize X1.heap.size = b1 at HLA HLS ⊢
      refine hK.out _ _ (HBB.out) (fun hHeld => ?_)
      clear hK K 
      refine wpAnyH_ready (rs := [2]) (by kernel_rfl) (by simp) (AllReadyH.cons (o := ⟨some 12, _, _, _, _, _⟩) rfl (fun K hK => ?_) AllReadyH.nil)
      obtain ⟨C1, hcv, hca⟩ := HCV.out V1
      have hbc := below_conv hHeld hHeld.size s
      have hold := bytesWorld_at_old V1 5 s b1 HLS.out
      have hgb := hHeld.size
      go_simp
      have HCC := Lib.hid (hca HM.out)
      have HBC := Lib.hid hbc
      have HGG := Lib.hid hgb
      have HLL := Lib.hid (hold.trans HLA.out)
      clear hcv hca hbc hgb hold HLA HLS HBB
      generalize bytesWorld V1 5 s = W1 at HCC HBC HLL ⊢
      generalize V1.heap.size = g1 at HCC HGG ⊢
      refine hK.out _ _ (HBC.out) (fun hHeld => ?_)
      clear hK K 
      refine wpAnyH_ready (rs := [4]) (by kernel_rfl) (by simp) (AllReadyH.cons (o := ⟨some 14, _, _, _, _, _⟩) rfl (fun K hK => ?_) AllReadyH.nil)
      refine step_append_conv rfl (.tmp 12) (.tmp 13) rfl g1 n C1 nb (by rfl) HCC.out (Nat.le_trans HN2.out (by decide)) 0 b1 (by rfl) HLL.out ?_
      intro Aa ca wa hc1 hc2 hr hbb
      have HBA := Lib.hid (hbb _ _ hHeld HGG.out)
      have HRA := Lib.hid hr
      clear hc1 hc2 hr hbb
      refine hK.out _ _ (HBA.out) (fun hHeld => ?_)
      clear hK K 
      refine wpAnyH_ready (rs := [5]) (by kernel_rfl) (by simp) (AllReadyH.cons (o := ⟨some 15, _, _, _, _, _⟩) rfl (fun K hK => ?_) AllReadyH.nil)
      go_simp
      refine (HO0.out Aa ca wa HRA.out).mono ?_
      rintro e wb ⟨rfl, hb⟩
      have HBZ := Lib.hid (hHeld.trans (hb.mono hHeld.size))
      refine hK.out _ _ (HBZ.out) (fun hHeld => ?_)
      clear hK K hb
      refine tk 6 8 (.int .u64 (h0 : Int)) rfl hHeld ?_
      simp only [Act.put, sA, sZ, sS]
      refine wpAnyH_done (by kernel_rfl) ?_ _
      exact hc wb g1 C1 b1 Aa ca hHeld
  case h2 =>
    intro w2 g0 D0 b0 A0 c0 hcc
    have HB2 := Lib.hid (HB0.out.trans (hcc.mono HB0.out.size))
    have HK2 := Lib.hid (Blk_10.below HK0.out (Blk_10.lt HK0.out) hcc)
    clear hcc
    go_wp2_with fail
    refine wp_region_held_drew (S := fun W => Below w2.heap.size w2 W) (by kernel_rfl) ((Below.refl _ _).drew) (fun hHeld => ?_)
    obtain ⟨X2, hX⟩ : ∃ X, w2.drew = X := ⟨_, rfl⟩
    rw [hX] at hHeld ⊢
    clear hX
    refine tkY 0 16 (keyC key) rfl (yields_keyp (by rfl) _ rfl w.heap.size rfl key HKL.out (fun W hW => Blk_10.below HK2.out (Blk_10.lt HK2.out) hW)) hHeld ?_
    simp only [Act.put, sA, sZ, sS]
    refine tk 1 17 (.string s) rfl hHeld ?_
    simp only [Act.put, sA, sZ, sS]
    refine wpAnyH_ready (rs := [2, 3]) (by kernel_rfl) (by simp) (AllReadyH.cons (o := ⟨some 18, _, _, _, _, _⟩) rfl (fun K hK => ?_) (AllReadyH.cons (o := ⟨some 19, _, _, _, _, _⟩) rfl (fun K hK => ?_) AllReadyH.nil))
    · obtain ⟨C1, hcv, hca⟩ := HCV.out X2
      have hbc := below_conv hHeld (hHeld.size) s
      have hgz : X2.heap.size < (bytesWorld X2 5 s).heap.size := by rw [bytesWorld_size]; exact Nat.lt_succ_self _
      have hgb := hHeld.size
      go_simp
      have HCA := Lib.hid (hca HM.out)
      have HBC := Lib.hid hbc
      have HGB := Lib.hid hgb
      have HGZ := Lib.hid hgz
      clear hcv hca hbc hgb hgz
      generalize bytesWorld X2 5 s = W1 at HCA HBC HGZ ⊢
      generalize X2.heap.size = g1 at HCA HGB HGZ ⊢
      refine hK.out _ _ (HBC.out) (fun hHeld => ?_)
      clear hK K 
      refine wpAnyH_ready (rs := [3]) (by kernel_rfl) (by simp) (AllReadyH.cons (o := ⟨some 19, _, _, _, _, _⟩) rfl (fun K hK => ?_) AllReadyH.nil)
      go_simp
      have HLA := Lib.hid (show (W1.alloc (.cells #[.int .u8 1] 5)).heap[W1.heap.size]? = some (.cells #[v8 1] 5 (0, 0)) from heap_alloc_new W1 _)
      have HBB := Lib.hid (hHeld.alloc hHeld.size (.cells #[.int .u8 1] 5))
      have hls : W1.heap.size < (W1.alloc (.cells #[.int .u8 1] 5)).heap.size := by rw [World.size_alloc]; exact Nat.lt_succ_self _
      have HLS := Lib.hid hls
      clear hls
      have HCC := Lib.hid (HCA.out.below ((Below.refl W1.heap.size W1).alloc (Nat.le_refl _) (.cells #[.int .u8 1] 5)) HGZ.out)
      have HLL := HLA
      have HGG := HGB
      clear HCA HLA HGB HBC HGZ HLS
      generalize W1.alloc (.cells #[.int .u8 1] 5) = V1 at HCC HLL HBB ⊢
      generalize W1.heap.size = b1 at HLL ⊢
      refine hK.out _ _ (HBB.out) (fun hHeld => ?_)
      clear hK K 
      refine wpAnyH_ready (rs := [4]) (by kernel_rfl) (by simp) (AllReadyH.cons (o := ⟨some 20, _, _, _, _, _⟩) rfl (fun K hK => ?_) AllReadyH.nil)
      refine step_append_conv rfl (.tmp 18) (.tmp 19) rfl g1 n C1 nb (by rfl) HCC.out (Nat.le_trans HN2.out (by decide)) 1 b1 (by rfl) HLL.out ?_
      intro Aa ca wa hc1 hc2 hr hbb
      have HBA := Lib.hid (hbb _ _ hHeld HGG.out)
      have HRA := Lib.hid hr
      clear hc1 hc2 hr hbb
      refine hK.out _ _ (HBA.out) (fun hHeld => ?_)
      clear hK K 
      refine wpAnyH_ready (rs := [5]) (by kernel_rfl) (by simp) (AllReadyH.cons (o := ⟨some 21, _, _, _, _, _⟩) rfl (fun K hK => ?_) AllReadyH.nil)
      go_simp
      refine (HO1.out Aa ca wa HRA.out).mono ?_
      rintro e wb ⟨rfl, hb⟩
      have HBZ := Lib.hid (hHeld.trans (hb.mono hHeld.size))
      refine hK.out _ _ (HBZ.out) (fun hHeld => ?_)
      clear hK K hb
      refine tk 6 9 (.int .u64 (h1 : Int)) rfl hHeld ?_
      simp only [Act.put, sA, sZ, sS]
      refine wpAnyH_done (by kernel_rfl) ?_ _
      have m0 := M0.out
      have m1 := M1.out
      have hp1 : ¬ ((p : Int) = 0) := by omega
      have hp3 : ¬ ((p : Int) - 1 = 0) := by omega
      have hp0 : ¬ (p = 0) := by omega
      have e1 : IntKind.u64.wrap (p : Int) = (p : Int) := wu64 (by omega) (by omega)
      have e2 : (h0 : Int).tmod (p : Int) = (r0 : Int) := (Int.tmod_eq_emod_of_nonneg (by omega)).trans m0
      have e3 : IntKind.i64.wrap (r0 : Int) = (r0 : Int) := wi64 (by omega) (by omega)
      have e4 : IntKind.i64.wrap ((p : Int) - 1) = (p : Int) - 1 := wi64 (by omega) (by omega)
      have e5 : IntKind.u64.wrap ((p : Int) - 1) = (p : Int) - 1 := wu64 (by omega) (by omega)
      have e6 : (h1 : Int).tmod ((p : Int) - 1) = (r1 : Int) := (Int.tmod_eq_emod_of_nonneg (by omega)).trans m1
      have e7 : IntKind.i64.wrap (r1 : Int) = (r1 : Int) := wi64 (by omega) (by omega)
      have e8 : IntKind.i64.wrap ((r1 : Int) + 1) = (r1 : Int) + 1 := wi64 (by omega) (by omega)
      have HBF := Lib.hid (HB2.out.trans (hHeld.mono HB2.out.size))
      clear hHeld HBZ HBA HRA HCC HLL HGG
      go_wp2_with fail
      refine wp_region_held_drew (S := fun W => True) (by kernel_rfl) (trivial) (fun hHeld => ?_)
      refine tk 0 22 (.int .u64 (h0 : Int)) rfl hHeld ?_
      simp only [Act.put, sA, sZ, sS]
      refine tk 1 23 (.int .i64 (p : Int)) rfl hHeld ?_
      simp only [Act.put, sA, sZ, sS]
      refine tk 2 24 (.int .u64 (p : Int)) rfl hHeld ?_
      simp only [Act.put, sA, sZ, sS]
      refine tk 3 25 (.int .u64 (r0 : Int)) rfl hHeld ?_
      simp only [Act.put, sA, sZ, sS]
      refine tk 4 26 (.int .i64 (r0 : Int)) rfl hHeld ?_
      simp only [Act.put, sA, sZ, sS]
      refine tk 5 27 (.int .u64 (h1 : Int)) rfl hHeld ?_
      simp only [Act.put, sA, sZ, sS]
      refine tk 6 28 (.int .i64 (p : Int)) rfl hHeld ?_
      simp only [Act.put, sA, sZ, sS]
      refine tk 7 29 (.int .i64 ((p : Int) - 1)) rfl hHeld ?_
      simp only [Act.put, sA, sZ, sS]
      refine tk 8 30 (.int .u64 ((p : Int) - 1)) rfl hHeld ?_
      simp only [Act.put, sA, sZ, sS]
      refine tk 9 31 (.int .u64 (r1 : Int)) rfl hHeld ?_
      simp only [Act.put, sA, sZ, sS]
      refine tk 10 32 (.int .i64 (r1 : Int)) rfl hHeld ?_
      simp only [Act.put, sA, sZ, sS]
      refine tk 11 33 (.int .i64 ((r1 : Int) + 1)) rfl hHeld ?_
      simp only [Act.put, sA, sZ, sS]
      refine tk 12 6 (.int .i64 (r0 : Int)) rfl hHeld ?_
      simp only [Act.put, sA, sZ, sS]
      refine tk 13 7 (.int .i64 ((r1 : Int) + 1)) rfl hHeld ?_
      simp only [Act.put, sA, sZ, sS]
      refine wpAnyH_done (by kernel_rfl) ?_ _
      clear m0 m1 hp1 hp3 e1 e2 e3 e4 e5 e6 e7 e8
      go_wp2_with fail
      go_ret2
      exact ⟨by rw [Int.natCast_add]; rfl, HBF.out.drew⟩
    · go_simp
      have HLA := Lib.hid (show (X2.alloc (.cells #[.int .u8 1] 5)).heap[X2.heap.size]? = some (.cells #[v8 1] 5 (0, 0)) from heap_alloc_new X2 _)
      have HBB := Lib.hid (hHeld.alloc hHeld.size (.cells #[.int .u8 1] 5))
      have hls : X2.heap.size < (X2.alloc (.cells #[.int .u8 1] 5)).heap.size := by rw [World.size_alloc]; exact Nat.lt_succ_self _
      have HLS := Lib.hid hls
      clear hls
      generalize X2.alloc (.cells #[.int .u8 1] 5) = V1 at HLA HBB HLS ⊢
      generalize X2.heap.size = b1 at HLA HLS ⊢
      refine hK.out _ _ (HBB.out) (fun hHeld => ?_)
      clear hK K 
      refine wpAnyH_ready (rs := [2]) (by kernel_rfl) (by simp) (AllReadyH.cons (o := ⟨some 18, _, _, _, _, _⟩) rfl (fun K hK => ?_) AllReadyH.nil)
      obtain ⟨C1, hcv, hca⟩ := HCV.out V1
      have hbc := below_conv hHeld hHeld.size s
      have hold := bytesWorld_at_old V1 5 s b1 HLS.out
      have hgb := hHeld.size
      go_simp
      have HCC := Lib.hid (hca HM.out)
      have HBC := Lib.hid hbc
      have HGG := Lib.hid hgb
      have HLL := Lib.hid (hold.trans HLA.out)
      clear hcv hca hbc hgb hold HLA HLS HBB
      generalize bytesWorld V1 5 s = W1 at HCC HBC HLL ⊢
      generalize V1.heap.size = g1 at HCC HGG ⊢
      refine hK.out _ _ (HBC.out) (fun hHeld => ?_)
      clear hK K 
      refine wpAnyH_ready (rs := [4]) (by kernel_rfl) (by simp) (AllReadyH.cons (o := ⟨some 20, _, _, _, _, _⟩) rfl (fun K hK => ?_) AllReadyH.nil)
      refine step_append_conv rfl (.tmp 18) (.tmp 19) rfl g1 n C1 nb (by rfl) HCC.out (Nat.le_trans HN2.out (by decide)) 1 b1 (by rfl) HLL.out ?_
      intro Aa ca wa hc1 hc2 hr hbb
      have HBA := Lib.hid (hbb _ _ hHeld HGG.out)
      have HRA := Lib.hid hr
      clear hc1 hc2 hr hbb
      refine hK.out _ _ (HBA.out) (fun hHeld => ?_)
      clear hK K 
      refine wpAnyH_ready (rs := [5]) (by kernel_rfl) (by simp) (AllReadyH.cons (o := ⟨some 21, _, _, _, _, _⟩) rfl (fun K hK => ?_) AllReadyH.nil)
      go_simp
      refine (HO1.out Aa ca wa HRA.out).mono ?_
      rintro e wb ⟨rfl, hb⟩
      have HBZ := Lib.hid (hHeld.trans (hb.mono hHeld.size))
      refine hK.out _ _ (HBZ.out) (fun hHeld => ?_)
      clear hK K hb
      refine tk 6 9 (.int .u64 (h1 : Int)) rfl hHeld ?_
      simp only [Act.put, sA, sZ, sS]
      refine wpAnyH_done (by kernel_rfl) ?_ _
      have m0 := M0.out
      have m1 := M1.out
      have hp1 : ¬ ((p : Int) = 0) := by omega
      have hp3 : ¬ ((p : Int) - 1 = 0) := by omega
      have hp0 : ¬ (p = 0) := by omega
      have e1 : IntKind.u64.wrap (p : Int) = (p : Int) := wu64 (by omega) (by omega)
      have e2 : (h0 : Int).tmod (p : Int) = (r0 : Int) := (Int.tmod_eq_emod_of_nonneg (by omega)).trans m0
      have e3 : IntKind.i64.wrap (r0 : Int) = (r0 : Int) := wi64 (by omega) (by omega)
      have e4 : IntKind.i64.wrap ((p : Int) - 1) = (p : Int) - 1 := wi64 (by omega) (by omega)
      have e5 : IntKind.u64.wrap ((p : Int) - 1) = (p : Int) - 1 := wu64 (by omega) (by omega)
      have e6 : (h1 : Int).tmod ((p : Int) - 1) = (r1 : Int) := (Int.tmod_eq_emod_of_nonneg (by omega)).trans m1
      have e7 : IntKind.i64.wrap (r1 : Int) = (r1 : Int) := wi64 (by omega) (by omega)
      have e8 : IntKind.i64.wrap ((r1 : Int) + 1) = (r1 : Int) + 1 := wi64 (by omega) (by omega)
      have HBF := Lib.hid (HB2.out.trans (hHeld.mono HB2.out.size))
      clear hHeld HBZ HBA HRA HCC HLL HGG
      go_wp2_with fail
      refine wp_region_held_drew (S := fun W => True) (by kernel_rfl) (trivial) (fun hHeld => ?_)
      refine tk 0 22 (.int .u64 (h0 : Int)) rfl hHeld ?_
      simp only [Act.put, sA, sZ, sS]
      refine tk 1 23 (.int .i64 (p : Int)) rfl hHeld ?_
      simp only [Act.put, sA, sZ, sS]
      refine tk 2 24 (.int .u64 (p : Int)) rfl hHeld ?_
      simp only [Act.put, sA, sZ, sS]
      refine tk 3 25 (.int .u64 (r0 : Int)) rfl hHeld ?_
      simp only [Act.put, sA, sZ, sS]
      refine tk 4 26 (.int .i64 (r0 : Int)) rfl hHeld ?_
      simp only [Act.put, sA, sZ, sS]
      refine tk 5 27 (.int .u64 (h1 : Int)) rfl hHeld ?_
      simp only [Act.put, sA, sZ, sS]
      refine tk 6 28 (.int .i64 (p : Int)) rfl hHeld ?_
      simp only [Act.put, sA, sZ, sS]
      refine tk 7 29 (.int .i64 ((p : Int) - 1)) rfl hHeld ?_
      simp only [Act.put, sA, sZ, sS]
      refine tk 8 30 (.int .u64 ((p : Int) - 1)) rfl hHeld ?_
      simp only [Act.put, sA, sZ, sS]
      refine tk 9 31 (.int .u64 (r1 : Int)) rfl hHeld ?_
      simp only [Act.put, sA, sZ, sS]
      refine tk 10 32 (.int .i64 (r1 : Int)) rfl hHeld ?_
      simp only [Act.put, sA, sZ, sS]
      refine tk 11 33 (.int .i64 ((r1 : Int) + 1)) rfl hHeld ?_
      simp only [Act.put, sA, sZ, sS]
      refine tk 12 6 (.int .i64 (r0 : Int)) rfl hHeld ?_
      simp only [Act.put, sA, sZ, sS]
      refine tk 13 7 (.int .i64 ((r1 : Int) + 1)) rfl hHeld ?_
      simp only [Act.put, sA, sZ, sS]
      refine wpAnyH_done (by kernel_rfl) ?_ _
      clear m0 m1 hp1 hp3 e1 e2 e3 e4 e5 e6 e7 e8
      go_wp2_with fail
      go_ret2
      exact ⟨by rw [Int.natCast_add]; rfl, HBF.out.drew⟩
end Go.Proofs.Ytmngagcekhlppaa
