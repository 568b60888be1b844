/-
  The square matrices of bits: crc.nought, times, squared; and crc.Join.
-/
import Derived.Test.YtboaoidimbkidaaCrcSum
namespace Go.Proofs.Ytboaoidimbkidaa
open Go.RowKit Go.Lib

/-- The matrix of n steps: what becomes of each bit. -/
def mat (n : Nat) : Nat → Nat := fun i => itr n (2 ^ i)
theorem shl_w (k : Nat) (h : k < 32) : (2 : Int) ^ k % 4294967296 = ((2 ^ k : Nat) : Int) := by
  have hp : (2 : Nat) ^ k < 2 ^ 32 := Nat.pow_lt_pow_right (by decide) h
  have he : ((2 ^ k : Nat) : Int) = (2 : Int) ^ k := by rw [Int.natCast_pow]; rfl
  rw [← he]
  generalize 2 ^ k = p at hp
  omega
theorem pow_lt32 {k : Nat} (h : k < 32) : 2 ^ k < 4294967296 := Nat.pow_lt_pow_right (n := 32) (a := 2) (by decide) h
theorem zeros32 : #[Value.int .u32 0, .int .u32 0, .int .u32 0, .int .u32 0, .int .u32 0, .int .u32 0, .int .u32 0, .int .u32 0, .int .u32 0, .int .u32 0, .int .u32 0, .int .u32 0, .int .u32 0, .int .u32 0, .int .u32 0, .int .u32 0, .int .u32 0, .int .u32 0, .int .u32 0, .int .u32 0, .int .u32 0, .int .u32 0, .int .u32 0, .int .u32 0, .int .u32 0, .int .u32 0, .int .u32 0, .int .u32 0, .int .u32 0, .int .u32 0, .int .u32 0, .int .u32 0] = (rowl (upTo (mat 8) 0) 32).toArray := by rfl

set_option maxRecDepth 100000 in
set_option maxHeartbeats 2000000 in
/-- crc.nought: the matrix of eight steps. -/
theorem nought_any (w : World) :
    Calls Try.prog 17 #[] w fun e w' => e = .returned (.agg (rowl (mat 8) 32).toArray) ∧ Below w.heap.size w w' := by
  go_enter Try.func17, Try.ntmps17
  have hb0 : Blk (w.alloc (.cells (rowl (upTo (mat 8) 0) 32).toArray 38)) 38 w.heap.size (rowl (upTo (mat 8) 0) 32) := Blk.new w _ _
  have hb1 : Blk ((w.alloc (.cells (rowl (upTo (mat 8) 0) 32).toArray 38)).alloc (.cells (rowl (upTo (mat 8) 0) 32).toArray 38)) 38 (w.heap.size + 1) (rowl (upTo (mat 8) 0) 32) := by
    have := Blk.new (w.alloc (.cells (rowl (upTo (mat 8) 0) 32).toArray 38)) 38 (rowl (upTo (mat 8) 0) 32)
    simpa using this
  have hbel := ((Below.refl w.heap.size w).alloc (Nat.le_refl _) (.cells (rowl (upTo (mat 8) 0) 32).toArray 38)).alloc (by simp) (.cells (rowl (upTo (mat 8) 0) 32).toArray 38)
  have hb2 := hb0.alloc (.cells (rowl (upTo (mat 8) 0) 32).toArray 38)
  rw [← zeros32] at hb1 hb2 hbel
  clear hb0
  go_wp2_with ((with_reducible show wpList _ _ _ _ _ _); refine wpList_storeR rfl 38 _ _ rfl (w.heap.size + 1) (by rfl) (rowl (upTo (mat 8) 0) 32) (congrArg Value.agg zeros32) _ hb1 rfl (rowsize32 _) (rowl_one _ _) ?_)
  have hb1 := hb1.setRow_ (rowl (upTo (mat 8) 0) 32)
  have hb2 := hb2.setRow_far (b := w.heap.size + 1) (by omega) (rowl (upTo (mat 8) 0) 32).toArray
  have hbel := below_setRow hbel (g := w.heap.size + 1) (by omega) (rowl (upTo (mat 8) 0) 32).toArray
  go_loopw [4] (fun i wr => ∃ k : Nat, k ≤ 32 ∧ i = .int .i64 (k : Int) ∧ Below w.heap.size w wr ∧ Blk wr 38 w.heap.size (rowl (upTo (mat 8) 0) 32) ∧ Blk wr 38 (w.heap.size + 1) (rowl (upTo (mat 8) k) 32))
    (fun i _ => 32 - (intOf i).toNat)
  case atStart => exact ⟨0, by omega, rfl, hbel, hb2, hb1⟩
  case round =>
    obtain ⟨k, hk, rfl, hB, hR, hT⟩ := hrel
    clear hb1 hb2 hbel
    by_cases hlt : k < 32
    · have hlt' : (k : Int) < 32 := by omega
      have hc := hT.cell (rowl_get _ 32 k hlt)
      have hf := hT.frozen k
      have hsh := shl_w k hlt
      have hpl := pow_lt32 hlt
      obtain ⟨p, hp⟩ : ∃ p, 2 ^ k = p := ⟨_, rfl⟩
      have hmk : itr 8 p = mat 8 k := by rw [← hp]; rfl
      rw [hp] at hsh hpl
      have HM := Lib.hid hmk
      clear hp hmk
      go_wp2_with (go_at_call 20; refine (steps_any p 8 hpl (by omega) _).mono ?_; rintro e w' ⟨rfl, rfl⟩)
      rw [HM.out]
      have hB' := hB.setCell (p := ⟨w.heap.size + 1, k, none⟩) (by simp) (.int .u32 (mat 8 k : Int))
      have hR' := hR.far (p := ⟨w.heap.size + 1, k, none⟩) (by simp) (.int .u32 (mat 8 k : Int))
      have hT' := hT.set k (w32 (mat 8 k))
      rw [rowl_set, upTo_more] at hT'
      go_roundw
      case rel => exact ⟨k + 1, by omega, by go_num, hB', hR', hT'⟩
      case measure => simp [intOf]; omega
    · obtain rfl : k = 32 := by omega
      rw [upTo_all] at hT
      go_wp2_with (first
        | ((with_reducible show wpList _ _ _ _ _ _); refine wpList_loadR rfl 38 _ rfl (w.heap.size + 1) (by rfl) _ hT 32 23 Try.underlying38 (rowsize32 _) ?_)
        | ((with_reducible show wpList _ _ _ _ _ _); refine wpList_storeR rfl 38 _ _ rfl w.heap.size (by rfl) (rowl (mat 8) 32) (by rfl) _ hR (by rw [rowl_len, rowl_len]) (rowsize32 _) (rowl_one _ _) ?_))
      have hR' := hR.setRow_ (rowl (mat 8) 32)
      have hB' := below_setRow hB (Nat.le_refl _) (rowl (mat 8) 32).toArray
      have hl := run_loadVar_row (P := Try.prog) _ w.heap.size _ 38 _ (0, 0) _ hR' Try.underlying38 rfl (by simpa using rowsize32 (mat 8))
      (try simp only [Exit.inBlock, Exit.then])
      refine bodyPost_ret (v := .agg (rowl (mat 8) 32).toArray) ?_ rfl ⟨rfl, hB'⟩
      exact results_cell1 rfl _ _ _ ⟨w.heap.size, 0, none⟩ _ (by rfl) hl

theorem run_index_row (f : Nat → Nat) (k : Nat) (hk : k < 32) (W : World) : (Instr.index 38 (.agg (rowl f 32).toArray) (.int .i64 (k : Int))).run Try.prog W = .ok (.int .u32 (f k : Int)) W := by
  have hn : (0 : Int) ≤ (k : Int) ∧ (k : Int) < 32 := by omega
  have hg : (rowl f 32).toArray[k]? = some (w32 (f k)) := by simpa using rowl_get f 32 k hk
  simp [Instr.index, run_underlying Try.underlying38, asIntOf, hn, go_sem]
  rw [if_pos hk, rowl_get f 32 k hk]
  rfl

theorem mat_more (N n k : Nat) (h : n / 2 ^ k % 2 = 1) : itr N (n % 2 ^ k) ^^^ mat N k = itr N (n % 2 ^ (k + 1)) := by
  rw [bit_more, h, Nat.one_mul, itr_xor]; rfl
theorem mat_same (N n k : Nat) (h : n / 2 ^ k % 2 = 0) : itr N (n % 2 ^ k) = itr N (n % 2 ^ (k + 1)) := by
  rw [bit_more, h, Nat.zero_mul, Nat.xor_zero]
theorem bit_w (n k : Nat) (h : n < 4294967296) : bits .and .u32 ((n : Int) / 2 ^ k) 1 = ((n / 2 ^ k % 2 : Nat) : Int) := by
  have e : (n : Int) / 2 ^ k = ((n / 2 ^ k : Nat) : Int) := by rw [Int.natCast_ediv, Int.natCast_pow]; rfl
  rw [e]
  exact and1_w _ (Nat.lt_of_le_of_lt (Nat.div_le_self _ _) h)
theorem mod_pow_lt {n : Nat} (k : Nat) (h : n < 4294967296) : n % 2 ^ k < 4294967296 := Nat.lt_of_le_of_lt (Nat.mod_le _ _) h

set_option maxRecDepth 100000 in
set_option maxHeartbeats 2000000 in
/-- (square).times: what the matrix of N steps makes of a word. -/
theorem times_any (N n : Nat) (hn : n < 4294967296) (w : World) :
    Calls Try.prog 18 #[.agg (rowl (mat N) 32).toArray, .int .u32 (n : Int)] w fun e w' => e = .returned (.int .u32 (itr N n : Int)) ∧ Below w.heap.size w w' := by
  go_enter Try.func18, Try.ntmps18
  have hb : Blk (w.alloc (.cells (rowl (mat N) 32).toArray 38)) 38 w.heap.size (rowl (mat N) 32) := Blk.new w _ _
  have hB := (Below.refl w.heap.size w).alloc (Nat.le_refl _) (.cells (rowl (mat N) 32).toArray 38)
  go_wp2_with ((with_reducible show wpList _ _ _ _ _ _); refine wpList_loadR rfl 38 _ rfl w.heap.size (by rfl) _ hb 32 23 Try.underlying38 (rowsize32 _) ?_)
  generalize w.alloc (.cells (rowl (mat N) 32).toArray 38) = w1 at hB ⊢
  clear hb
  obtain ⟨R, hR⟩ : ∃ R, itr N n = R := ⟨_, rfl⟩
  have HR := Lib.hid hR
  clear hR
  go_loop [5, 9] (fun u i => ∃ k m : Nat, k ≤ 32 ∧ m < 4294967296 ∧ u = .int .u32 (m : Int) ∧ i = .int .i64 (k : Int) ∧ m = itr N (n % 2 ^ k))
    (fun _ i => 32 - (intOf i).toNat)
  case atStart => exact ⟨0, 0, by omega, by omega, rfl, rfl, by rw [Nat.pow_zero, Nat.mod_one, itr_at0]⟩
  case round =>
    obtain ⟨k, m, hk, hm, rfl, rfl, hg⟩ := hrel
    by_cases hlt : k < 32
    · have hlt' : (k : Int) < 32 := by omega
      have hix := fun W => run_index_row (mat N) k hlt W
      have hbit := bit_w n k hn
      have hml : mat N k < 4294967296 := itr_lt N (pow_lt32 hlt)
      obtain ⟨c, hc⟩ : ∃ c, mat N k = c := ⟨_, rfl⟩
      rw [hc] at hml
      simp only [hc] at hix
      rcases Nat.mod_two_eq_zero_or_one (n / 2 ^ k) with hz | hz
      · have hs := mat_same N n k hz
        rw [hz] at hbit
        rw [hs] at hg
        have HG := Lib.hid hg
        clear hz hs hg hc
        go_wp2_with fail
        go_round
        case rel => exact ⟨k + 1, m, by omega, hm, rfl, by go_num, HG.out⟩
        case measure => simp [intOf]; omega
      · have hs := mat_more N n k hz
        rw [hz] at hbit
        rw [hc, ← hg] at hs
        have hx := xor_w m c hm hml
        have hxl := xor_lt32 hm hml
        have HS := Lib.hid hs
        clear hz hs hg hc
        go_wp2_with fail
        go_round
        case rel => exact ⟨k + 1, m ^^^ c, by omega, hxl, rfl, by go_num, HS.out⟩
        case measure => simp [intOf]; omega
    · obtain rfl : k = 32 := by omega
      rw [Nat.mod_eq_of_lt (by omega)] at hg
      have HG := Lib.hid hg
      clear hg
      go_wp2_with fail
      go_ret
      rw [HG.out]
      exact ⟨rfl, hB⟩

theorem upTo_none (f g : Nat → Nat) (n : Nat) : rowl (upTo f 0) n = rowl (upTo g 0) n := rowl_eq fun i _ => by unfold upTo; rw [if_neg (by omega), if_neg (by omega)]
theorem mat_twice (N k : Nat) : itr N (mat N k) = mat (N + N) k := (itr_add N N _).symm

set_option maxRecDepth 100000 in
set_option maxHeartbeats 4000000 in
/-- (square).squared: the matrix of N steps, done twice. -/
theorem squared_any (N : Nat) (w : World) :
    Calls Try.prog 19 #[.agg (rowl (mat N) 32).toArray] w fun e w' => e = .returned (.agg (rowl (mat (N + N)) 32).toArray) ∧ Below w.heap.size w w' := by
  go_enter Try.func19, Try.ntmps19
  have hA : Blk (w.alloc (.cells (rowl (mat N) 32).toArray 38)) 38 w.heap.size (rowl (mat N) 32) := Blk.new w _ _
  have hB := (Below.refl w.heap.size w).alloc (Nat.le_refl _) (.cells (rowl (mat N) 32).toArray 38)
  have hs1 : (w.alloc (.cells (rowl (mat N) 32).toArray 38)).heap.size = w.heap.size + 1 := by simp
  have hR := Blk.new (w.alloc (.cells (rowl (mat N) 32).toArray 38)) 38 (rowl (upTo (mat 8) 0) 32)
  have hA := hA.alloc (.cells (rowl (upTo (mat 8) 0) 32).toArray 38)
  have hB := hB.alloc (by omega) (.cells (rowl (upTo (mat 8) 0) 32).toArray 38)
  have hs2 : ((w.alloc (.cells (rowl (mat N) 32).toArray 38)).alloc (.cells (rowl (upTo (mat 8) 0) 32).toArray 38)).heap.size = w.heap.size + 1 + 1 := by simp
  have hT := Blk.new ((w.alloc (.cells (rowl (mat N) 32).toArray 38)).alloc (.cells (rowl (upTo (mat 8) 0) 32).toArray 38)) 38 (rowl (upTo (mat 8) 0) 32)
  have hA := hA.alloc (.cells (rowl (upTo (mat 8) 0) 32).toArray 38)
  have hR := hR.alloc (.cells (rowl (upTo (mat 8) 0) 32).toArray 38)
  have hB := hB.alloc (by omega) (.cells (rowl (upTo (mat 8) 0) 32).toArray 38)
  rw [hs1] at hR
  rw [hs2] at hT
  have hA' := hA.setRow_far (b := w.heap.size + 1 + 1) (by omega) (rowl (upTo (mat 8) 0) 32).toArray
  have hR' := hR.setRow_far (b := w.heap.size + 1 + 1) (by omega) (rowl (upTo (mat 8) 0) 32).toArray
  have hT' := hT.setRow_ (rowl (upTo (mat 8) 0) 32)
  have hB' := below_setRow hB (g := w.heap.size + 1 + 1) (by omega) (rowl (upTo (mat 8) 0) 32).toArray
  clear hA hR hB hs1 hs2
  rw [← zeros32] at hT hA' hR' hB' hT'
  have HT := Lib.hid hT
  have HA := Lib.hid hA'
  have hA'' := hA'
  clear hT hA'
  go_wp2_with (first
    | ((with_reducible show wpList _ _ _ _ _ _); refine wpList_storeR rfl 38 _ _ rfl (w.heap.size + 1 + 1) (by rfl) (rowl (upTo (mat 8) 0) 32) (congrArg Value.agg zeros32) _ HT.out rfl (rowsize32 _) (rowl_one _ _) ?_)
    | ((with_reducible show wpList _ _ _ _ _ _); refine wpList_loadR rfl 38 _ rfl w.heap.size (by rfl) _ HA.out 32 23 Try.underlying38 (rowsize32 _) ?_))
  clear HT HA
  rw [upTo_none (mat 8) (mat (N + N))] at hT'
  go_loopw [8] (fun i wr => ∃ k : Nat, k ≤ 32 ∧ i = .int .i64 (k : Int) ∧ Below w.heap.size w wr ∧ Blk wr 38 w.heap.size (rowl (mat N) 32) ∧ Blk wr 38 (w.heap.size + 1) (rowl (upTo (mat 8) 0) 32) ∧ Blk wr 38 (w.heap.size + 1 + 1) (rowl (upTo (mat (N + N)) k) 32))
    (fun i _ => 32 - (intOf i).toNat)
  case atStart => exact ⟨0, by omega, rfl, hB', hA'', hR', hT'⟩
  case round =>
    obtain ⟨k, hk, rfl, hB, hA, hR, hT⟩ := hrel
    clear hB' hA'' hR' hT'
    by_cases hlt : k < 32
    · have hlt' : (k : Int) < 32 := by omega
      have hix := fun W => run_index_row (mat N) k hlt W
      have hml : mat N k < 4294967296 := itr_lt N (pow_lt32 hlt)
      have hm2 := mat_twice N k
      obtain ⟨c, hc⟩ : ∃ c, mat N k = c := ⟨_, rfl⟩
      rw [hc] at hml hm2
      simp only [hc] at hix
      have HM := Lib.hid hm2
      clear hc hm2
      go_wp2_with ((with_reducible show wpList _ _ _ _ _ _); refine wpList_loadR rfl 38 _ rfl w.heap.size (by rfl) _ hA 32 23 Try.underlying38 (rowsize32 _) ?_)
      refine (times_any N c hml wr).mono ?_
      rintro e w2 ⟨rfl, hb2⟩
      rw [HM.out]
      have hA2 := hA.below hA.lt hb2
      have hR2 := hR.below hR.lt hb2
      have hT2 := hT.below hT.lt hb2
      have hB2 := hB.trans (hb2.mono hB.size)
      have hc := hT2.cell (rowl_get _ 32 k hlt)
      have hf := hT2.frozen k
      have hB3 := hB2.setCell (p := ⟨w.heap.size + 1 + 1, k, none⟩) (by simp; omega) (.int .u32 (mat (N + N) k : Int))
      have hR3 := hR2.far (p := ⟨w.heap.size + 1 + 1, k, none⟩) (by simp) (.int .u32 (mat (N + N) k : Int))
      have hA3 := hA2.far (p := ⟨w.heap.size + 1 + 1, k, none⟩) (by simp; omega) (.int .u32 (mat (N + N) k : Int))
      have hT3 := hT2.set k (w32 (mat (N + N) k))
      rw [rowl_set, upTo_more] at hT3
      have KA := Lib.hid hA3
      have KR := Lib.hid hR3
      have KT := Lib.hid hT3
      have KB := Lib.hid hB3
      clear hA2 hR2 hT2 hB2 hA3 hR3 hT3 hB3 hA hR hT hB hix
      go_wp2_with fail
      go_roundw
      case rel => exact ⟨k + 1, by omega, by go_num, KB.out, KA.out, KR.out, KT.out⟩
      case measure => simp [intOf]; omega
    · obtain rfl : k = 32 := by omega
      rw [upTo_all] at hT
      go_wp2_with (first
        | ((with_reducible show wpList _ _ _ _ _ _); refine wpList_loadR rfl 38 _ rfl (w.heap.size + 1 + 1) (by rfl) _ hT 32 23 Try.underlying38 (rowsize32 _) ?_)
        | ((with_reducible show wpList _ _ _ _ _ _); refine wpList_storeR rfl 38 _ _ rfl (w.heap.size + 1) (by rfl) (rowl (mat (N + N)) 32) (by rfl) _ hR (by rw [rowl_len, rowl_len]) (rowsize32 _) (rowl_one _ _) ?_))
      have hR' := hR.setRow_ (rowl (mat (N + N)) 32)
      have hB' := below_setRow hB (g := w.heap.size + 1) (by omega) (rowl (mat (N + N)) 32).toArray
      have hl := run_loadVar_row (P := Try.prog) _ (w.heap.size + 1) _ 38 _ (0, 0) _ hR' Try.underlying38 rfl (by simpa using rowsize32 (mat (N + N)))
      (try simp only [Exit.inBlock, Exit.then])
      refine bodyPost_ret (v := .agg (rowl (mat (N + N)) 32).toArray) ?_ rfl ⟨rfl, hB'⟩
      exact results_cell1 rfl _ _ _ ⟨w.heap.size + 1, 0, none⟩ _ (by rfl) hl

theorem i64_and1 (n : Nat) (h : n < 9223372036854775808) : bits .and .i64 (n : Int) 1 = ((n % 2 : Nat) : Int) := by
  show IntKind.i64.wrap ((BitVec.ofInt 64 (n : Int) &&& BitVec.ofInt 64 1).toNat : Int) = _
  have h2 : (BitVec.ofInt 64 (n : Int)).toNat = n := by
    rw [BitVec.ofInt_natCast, BitVec.toNat_ofNat]; exact Nat.mod_eq_of_lt (by omega)
  have h1 : (BitVec.ofInt 64 1).toNat = 1 := by decide
  rw [BitVec.toNat_and, h1, h2, nat_mask1, IntKind.wrap_i64]
  omega

end Go.Proofs.Ytboaoidimbkidaa
