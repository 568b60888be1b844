/-
  The program's hash of a name with a byte behind it, and its Of (stage 16).
-/
import Derived.Test.YtmngagcekhlppaaJConv
import Derived.Test.YtmngagcekhlppaaJP1
import Derived.Test.YtmngagcekhlppaaHP5
namespace Go.Proofs.Ytmngagcekhlppaa
set_option maxRecDepth 100000
open Go.RowKit Go.Lib

/-- sip.Of of two texts, their slices just laid in a row of new memory. -/
theorem of_two (key : List UInt8) (hk : key.length = 16) (W : World) {A9 A11 : Option Addr} {n C1 : Nat} {nb : List UInt8} {x : UInt8} (h1 : Rd W W.heap.size A9 n nb) (h2 : Rd W W.heap.size A11 1 [x]) (k : n ≤ C1) (m : C1 ≤ maxLen) (hn : n ≤ 1000) :
    Calls Try.prog 67 #[keyC key, .slice (some ⟨W.heap.size, 0, none⟩) 2 2] (W.alloc (.cells #[.slice A9 n C1, .slice A11 1 1] 63)) fun e W' => e = .returned (.int .u64 (hashW key (nb ++ [x]) : Nat)) ∧ Below W.heap.size W W' := by
  have hl := ((((CellsAt.nil_ W W.heap.size).cons h2 (Nat.le_refl _) (small_max (by omega))).cons h1 k m).laid (Nat.le_refl _) 2 rfl)
  have hf : ([nb, [x]] : List (List UInt8)).flatten = nb ++ [x] := by simp
  have h := pof_any key hk (some ⟨W.heap.size, 0, none⟩) 2 2 [nb, [x]] (by omega) (by rw [hf, List.length_append, h1.len, h2.len]; omega) _ _ hl (by rw [World.size_alloc]; exact Nat.le_refl _)
  rw [hf] at h
  have hb0 : Below W.heap.size W (W.alloc (.cells #[.slice A9 n C1, .slice A11 1 1] 63)) := (Below.refl W.heap.size W).alloc (Nat.le_refl _) _
  refine h.mono ?_
  rintro e W' ⟨he, hb⟩
  exact ⟨he, hb0.trans (hb.mono hb0.size)⟩
theorem cut_hash {goal : Prop} {H M : World → Prop} (h1 : (∀ W, H W → M W) → goal) (h2 : ∀ W, H W → M W) : goal := h1 h2
theorem ConvAt.cap {w : World} {g n C : Nat} {xs : List UInt8} (h : ConvAt w g n C xs) : n ≤ C ∧ C ≤ maxLen ∧ xs.length = n := by
  obtain ⟨_, _, _, h1, h2, h3, _⟩ := h
  exact ⟨h1, h2, h3⟩
set_option maxHeartbeats 8000000 in
theorem phash_any (key : List UInt8) (hk : key.length = 16) (s : ByteArray) (hs : s.size ≤ 1000) (x : UInt8) (w : World) :
    Calls Try.prog 52 #[keyC key, .string s, .int .u8 (x.toNat : Int)] w fun e w' => e = .returned (.int .u64 (hashW key (s.data.toList ++ [x]) : Nat)) ∧ Below w.heap.size w w' := by
  obtain ⟨C0, hC0⟩ : ∃ C, (key.map v8).toArray = C := ⟨_, rfl⟩
  obtain ⟨Y, hY⟩ : ∃ Y, w.alloc (.cells C0 22) = Y := ⟨_, rfl⟩
  have HK0 := Lib.hid (show Blk Y 22 w.heap.size (key.map v8) by rw [← hY, ← hC0]; exact Blk_10.new w _ _)
  have HB0 := Lib.hid (show Below w.heap.size w Y by rw [← hY]; exact (Below.refl w.heap.size w).alloc (Nat.le_refl _) _)
  have HY := Lib.hid hY
  have HKE : Hid (keyC key = .agg C0) := Lib.hid (by rw [← hC0]; rfl)
  rw [HKE.out]
  have HKL := Lib.hid hk
  clear hY hC0 hk
  obtain ⟨n, hn⟩ : ∃ n, s.size = n := ⟨_, rfl⟩
  have hn2 : n ≤ 1000 := by omega
  have hm : n ≤ maxLen := by unfold maxLen; omega
  obtain ⟨C1, hcv, hca⟩ := run_conv8 s Y
  have hbc := below_conv (Below.refl Y.heap.size Y) (Nat.le_refl _) s
  have hgz : Y.heap.size < (bytesWorld Y 5 s).heap.size := by rw [bytesWorld_size]; exact Nat.lt_succ_self _
  rw [hn] at hcv hca
  have hca := hca hm
  obtain ⟨nb, hnb⟩ : ∃ l, s.data.toList = l := ⟨_, rfl⟩
  rw [hnb] at hca ⊢
  obtain ⟨W1, hW1⟩ : ∃ W, bytesWorld Y 5 s = W := ⟨_, rfl⟩
  rw [hW1] at hcv hca hbc hgz
  have hsz := World.size_alloc W1 (.cells #[.int .u8 (x.toNat : Int)] 5)
  have hbb : Below W1.heap.size W1 (W1.alloc (.cells #[.int .u8 (x.toNat : Int)] 5)) := (Below.refl W1.heap.size W1).alloc (Nat.le_refl _) _
  have hrb := (Rd.one W1 x).more (B' := (W1.alloc (.cells #[.int .u8 (x.toNat : Int)] 5)).heap.size) (by rw [hsz]; exact Nat.le_refl _)
  have hra := (hca.below hbb hgz).rd (B := (W1.alloc (.cells #[.int .u8 (x.toNat : Int)] 5)).heap.size) (by rw [hsz]; exact Nat.lt_succ_of_lt hgz)
  have hX := of_two key HKL.out _ hra hrb hca.cap.1 hca.cap.2.1 hn2
  obtain ⟨R, hR⟩ : ∃ R, hashW key (nb ++ [x]) = R := ⟨_, rfl⟩
  rw [hR] at hX ⊢
  rw [hsz] at hX
  have HX : Hid (Calls Try.prog 67 #[.agg (key.map v8).toArray, .slice (some ⟨W1.heap.size + 1, 0, none⟩) 2 2] ((W1.alloc (.cells #[.int .u8 (x.toNat : Int)] 5)).alloc (.cells #[.slice (some ⟨Y.heap.size, 0, none⟩) n C1, .slice (some ⟨W1.heap.size, 0, none⟩) 1 1] 63)) fun e W' => e = .returned (.int .u64 (R : Nat)) ∧ Below (W1.heap.size + 1) (W1.alloc (.cells #[.int .u8 (x.toNat : Int)] 5)) W') := Lib.hid hX
  have HBZ := Lib.hid (HB0.out.trans ((hbc.trans (hbb.mono hbc.size)).mono HB0.out.size))
  have HSZ := Lib.hid hsz
  clear hn hnb hs hn2 hR hX hra hrb hbb hsz hgz hbc hca hm hW1
  go_enter Try.func52, Try.ntmps52
  go_upto_region 1 with (fail)
  rw [HY.out]
  go_wp2_with (first
    | ((with_reducible show wpList _ _ _ (⟨some 7, _, _, _, _, _⟩ :: _) _ _); refine wpList_loadM (op := ⟨some 7, _, _, _, _, _⟩) 22 _ rfl (by rfl) w.heap.size 0 (by rfl) (key.map v8) (Blk_10.range HK0.out) _ Try.underlying22 rfl (keyp_size HKL.out) ?_)
    | (with_reducible refine HX.out.mono ?_; rintro e w2 ⟨rfl, hb2⟩; have HB2 := Lib.hid hb2; clear hb2))
  go_ret
  refine ⟨rfl, HBZ.out.trans (HB2.out.mono ?_)⟩
  have h1 := HBZ.out.size
  have h2 := HSZ.out
  omega
theorem pfits_yes (p : Nat) (hp : SizeN p) (w : World) : Calls Try.prog 51 #[.int .i64 (p : Int)] w fun e w' => e = .returned (.bool true) ∧ w = w' := by
  have hp2 := hp.two
  have hpm := hp.most
  have h1 : (2 : Int) ≤ (p : Int) := by omega
  have h2 : (p : Int) ≤ 65537 := by omega
  clear hp
  go_enter Try.func51, Try.ntmps51
  go_wp2_with fail
  go_ret
  exact ⟨rfl, rfl⟩
set_option maxHeartbeats 8000000 in
theorem ppof_any (key : List UInt8) (hk : key.length = 16) (s : ByteArray) (hs : s.size ≤ 1000) (p : Nat) (hp : SizeN p) (w : World) :
    Calls Try.prog 39 #[keyC key, .string s, .int .i64 (p : Int)] w fun e w' => e = .returned (.tuple #[.int .i64 (offN key s.data.toList p : Nat), .int .i64 (skN key s.data.toList p : Nat)]) ∧ Below w.heap.size w w' := by
  have hp2 := hp.two
  have hpm := hp.most
  obtain ⟨C0, hC0⟩ : ∃ C, (key.map v8).toArray = C := ⟨_, rfl⟩
  obtain ⟨Y, hY⟩ : ∃ Y, w.alloc (.cells C0 22) = Y := ⟨_, rfl⟩
  have HK0 := Lib.hid (show Blk Y 22 w.heap.size (key.map v8) by rw [← hY, ← hC0]; exact Blk_10.new w _ _)
  have HB0 := Lib.hid (show Below w.heap.size w Y by rw [← hY]; exact (Below.refl w.heap.size w).alloc (Nat.le_refl _) _)
  have HY := Lib.hid hY
  have HKE : Hid (keyC key = .agg C0) := Lib.hid (by rw [← hC0]; rfl)
  rw [HKE.out]
  have HKL := Lib.hid hk
  have HF := Lib.hid (fun W => pfits_yes p hp W)
  have HH : Hid (∀ (x : UInt8) (W : World), Calls Try.prog 52 #[.agg (key.map v8).toArray, .string s, .int .u8 (x.toNat : Int)] W fun e w' => e = .returned (.int .u64 (hashW key (s.data.toList ++ [x]) : Nat)) ∧ Below W.heap.size W w') := Lib.hid (fun x W => phash_any key hk s hs x W)
  have l0 := hashW_lt hk (s.data.toList ++ [0])
  have l1 := hashW_lt hk (s.data.toList ++ [1])
  have HOF : Hid (offN key s.data.toList p = hashW key (s.data.toList ++ [0]) % p) := Lib.hid rfl
  have HSK : Hid (skN key s.data.toList p = hashW key (s.data.toList ++ [1]) % (p - 1) + 1) := Lib.hid rfl
  have HO0 : Hid (∀ W : World, Calls Try.prog 52 #[.agg (key.map v8).toArray, .string s, .int .u8 0] W fun e w' => e = .returned (.int .u64 (hashW key (s.data.toList ++ [0]) : Nat)) ∧ Below W.heap.size W w') := Lib.hid (HH.out 0)
  have HO1 : Hid (∀ W : World, Calls Try.prog 52 #[.agg (key.map v8).toArray, .string s, .int .u8 1] W fun e w' => e = .returned (.int .u64 (hashW key (s.data.toList ++ [1]) : Nat)) ∧ Below W.heap.size W w') := Lib.hid (HH.out 1)
  obtain ⟨h0, hh0⟩ : ∃ h, hashW key (s.data.toList ++ [0]) = h := ⟨_, rfl⟩
  obtain ⟨h1, hh1⟩ : ∃ h, hashW key (s.data.toList ++ [1]) = h := ⟨_, rfl⟩
  rw [hh0] at HO0 HOF l0
  rw [hh1] at HO1 HSK l1
  clear hh0 hh1 HH hs hp hY hC0 hk
  have m0 : (h0 : Int) % (p : Int) = ((h0 % p : Nat) : Int) := by rw [Int.natCast_emod]
  have m1 : (h1 : Int) % ((p : Int) - 1) = ((h1 % (p - 1) : Nat) : Int) := by rw [Int.natCast_emod, Int.natCast_sub (by omega)]; rfl
  have q0 : h0 % p < p := Nat.mod_lt _ (by omega)
  have q1 : h1 % (p - 1) < p - 1 := Nat.mod_lt _ (by omega)
  obtain ⟨r0, hr0⟩ : ∃ r, h0 % p = r := ⟨_, rfl⟩
  obtain ⟨r1, hr1⟩ : ∃ r, h1 % (p - 1) = r := ⟨_, rfl⟩
  rw [hr0] at m0 HOF q0
  rw [hr1] at m1 HSK q1
  rw [HOF.out, HSK.out]
  clear hr0 hr1 HOF HSK
  go_enter Try.func39, Try.ntmps39
  go_upto_region 1 with (fail)
  rw [HY.out]
  go_wp2_with (first
    | (with_reducible refine (HF.out Y).mono ?_; rintro e w' ⟨rfl, rfl⟩)
    | ((with_reducible show wpList _ _ _ (⟨some 13, _, _, _, _, _⟩ :: _) _ _); refine wpList_loadM (op := ⟨some 13, _, _, _, _, _⟩) 22 _ rfl (by rfl) w.heap.size 0 (by rfl) (key.map v8) (Blk_10.range HK0.out) _ Try.underlying22 rfl (keyp_size HKL.out) ?_)
    | (with_reducible refine (HO0.out Y).mono ?_; rintro e w1 ⟨rfl, hb1⟩; have HB1 := Lib.hid hb1; have HK1 := Lib.hid (Blk_10.below HK0.out (Blk_10.lt HK0.out) hb1); clear hb1)
    | ((with_reducible show wpList _ _ _ (⟨some 19, _, _, _, _, _⟩ :: _) _ _); refine wpList_loadM (op := ⟨some 19, _, _, _, _, _⟩) 22 _ rfl (by rfl) w.heap.size 0 (by rfl) (key.map v8) (Blk_10.range HK1.out) _ Try.underlying22 rfl (keyp_size HKL.out) ?_)
    | (with_reducible refine (HO1.out w1).mono ?_; rintro e w2 ⟨rfl, hb2⟩; have HB2 := Lib.hid (HB1.out.trans (hb2.mono HB1.out.size)); clear hb2))
  go_ret2
  exact ⟨by rw [Int.natCast_add]; rfl, HB0.out.trans (HB2.out.mono HB0.out.size)⟩
end Go.Proofs.Ytmngagcekhlppaa
