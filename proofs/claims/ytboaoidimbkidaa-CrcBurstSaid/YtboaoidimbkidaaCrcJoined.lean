/-
  crc.Join.
-/
import Derived.Test.YtboaoidimbkidaaCrcSquare
namespace Go.Proofs.Ytboaoidimbkidaa
open Go.RowKit Go.Lib

theorem join_odd (N n a : Nat) (h : n % 2 = 1) : itr (N * n) a = itr ((N + N) * (n / 2)) (itr N a) := by
  rw [← itr_add]
  congr 1
  have e : n = 2 * (n / 2) + 1 := by omega
  generalize n / 2 = k at e
  subst e
  rw [Nat.mul_add, Nat.mul_one, Nat.add_mul, Nat.add_comm, Nat.two_mul, Nat.mul_add]
theorem join_even (N n a : Nat) (h : n % 2 = 0) : itr (N * n) a = itr ((N + N) * (n / 2)) a := by
  congr 1
  have e : n = 2 * (n / 2) := by omega
  generalize n / 2 = k at e
  subst e
  rw [Nat.add_mul, Nat.two_mul, Nat.mul_add]

theorem put_none (a : Act) (v : Value) : a.put none v = a := rfl

set_option maxRecDepth 100000 in
set_option maxHeartbeats 4000000 in
/-- crc.Join -/
theorem join_any (a b n : Nat) (ha : a < 4294967296) (hb : b < 4294967296) (hn : n < 9223372036854775808) (w : World) :
    Calls Try.prog 13 #[.int .u32 (a : Int), .int .u32 (b : Int), .int .i64 (n : Int)] w fun e w' => e = .returned (.int .u32 ((itr (8 * n) a ^^^ b : Nat) : Int)) ∧ Below w.heap.size w w' := by
  have hRl := itr_lt (8 * n) ha
  obtain ⟨R, hR⟩ : ∃ R, itr (8 * n) a = R := ⟨_, rfl⟩
  rw [hR] at hRl ⊢
  have HR := Lib.hid hR
  clear hR
  go_enter Try.func13, Try.ntmps13
  go_wp2_with fail
  refine (nought_any _).mono ?_
  rintro e w1 ⟨rfl, hb1⟩
  have hz : Blk (w1.alloc (.cells (rowl (upTo (mat 8) 0) 32).toArray 38)) 38 w1.heap.size (rowl (upTo (mat 8) 0) 32) := Blk.new w1 _ _
  have hbz := hb1.alloc hb1.size (.cells (rowl (upTo (mat 8) 0) 32).toArray 38)
  have hG := hz.setRow_ (rowl (mat 8) 32)
  have hbG := below_setRow hbz hb1.size (rowl (mat 8) 32).toArray
  rw [← zeros32] at hz hG hbG
  clear hbz
  go_wp2_with ((with_reducible show wpList _ _ _ _ _ _); refine wpList_storeR rfl 38 _ _ rfl w1.heap.size (by rfl) (rowl (mat 8) 32) (by rfl) _ hz (by rw [rowl_len, rowl_len]) (rowsize32 _) (rowl_one _ _) ?_)
  clear hz
  have hs1 := hb1.size
  generalize (w1.alloc (.cells #[Value.int .u32 0, Value.int .u32 0, Value.int .u32 0, Value.int .u32 0, Value.int .u32 0, Value.int .u32 0, Value.int .u32 0, Value.int .u32 0, Value.int .u32 0, Value.int .u32 0, Value.int .u32 0, Value.int .u32 0, Value.int .u32 0, Value.int .u32 0, Value.int .u32 0, Value.int .u32 0, Value.int .u32 0, Value.int .u32 0, Value.int .u32 0, Value.int .u32 0, Value.int .u32 0, Value.int .u32 0, Value.int .u32 0, Value.int .u32 0, Value.int .u32 0, Value.int .u32 0, Value.int .u32 0, Value.int .u32 0, Value.int .u32 0, Value.int .u32 0, Value.int .u32 0, Value.int .u32 0] 38)).setRow w1.heap.size (rowl (mat 8) 32).toArray = w2 at hG hbG ⊢
  rw [put_none]
  go_loopw [0, 2] (fun u v wr => ∃ N c m : Nat, c < 4294967296 ∧ m ≤ n ∧ u = .int .u32 (c : Int) ∧ v = .int .i64 (m : Int) ∧ itr (N * m) c = R ∧ Below w.heap.size w wr ∧ Blk wr 38 w1.heap.size (rowl (mat N) 32))
    (fun _ v _ => (intOf v).toNat)
  case atStart => exact ⟨8, a, n, ha, Nat.le_refl _, rfl, rfl, HR.out, hbG, hG⟩
  case round =>
    obtain ⟨N, c, m, hc, hm, rfl, rfl, hr, hB, hM⟩ := hrel
    clear hG hbG
    rcases Nat.eq_zero_or_pos m with rfl | hpos
    · have HQ := Lib.hid hr
      clear hr
      have hx := xor_w c b hc hb
      go_wp2_with fail
      go_ret
      rw [← HQ.out]
      exact ⟨rfl, hB⟩
    · have hpos' : (0 : Int) < (m : Int) := by omega
      have hand := i64_and1 m (by omega)
      rcases Nat.mod_two_eq_zero_or_one m with hz | hz
      · rw [join_even N m c hz] at hr
        rw [hz] at hand
        have HQ := Lib.hid hr
        clear hr hz
        go_wp2_with ((with_reducible show wpList _ _ _ _ _ _); refine wpList_loadR rfl 38 _ rfl w1.heap.size (by rfl) _ hM 32 23 Try.underlying38 (rowsize32 _) ?_)
        refine (squared_any N wr).mono ?_
        rintro e w3 ⟨rfl, hb3⟩
        have hM3 := hM.below hM.lt hb3
        have hB3 := hB.trans (hb3.mono hB.size)
        have KM := Lib.hid (hM3.setRow_ (rowl (mat (N + N)) 32))
        have KB := Lib.hid (below_setRow hB3 hs1 (rowl (mat (N + N)) 32).toArray)
        clear hM hB hB3
        go_wp2_with ((with_reducible show wpList _ _ _ _ _ _); refine wpList_storeR rfl 38 _ _ rfl w1.heap.size (by rfl) (rowl (mat (N + N)) 32) (by rfl) _ hM3 (by rw [rowl_len, rowl_len]) (rowsize32 _) (rowl_one _ _) ?_)
        go_roundw
        case rel => exact ⟨N + N, c, m / 2, hc, by omega, rfl, by go_num, HQ.out, KB.out, KM.out⟩
        case measure => simp [intOf]; omega
      · rw [join_odd N m c hz] at hr
        rw [hz] at hand
        have hcl := itr_lt N hc
        have HQ := Lib.hid hr
        clear hr hz
        go_wp2_with ((with_reducible show wpList _ _ _ _ _ _); refine wpList_loadR rfl 38 _ rfl w1.heap.size (by rfl) _ hM 32 23 Try.underlying38 (rowsize32 _) ?_)
        refine (times_any N c hc wr).mono ?_
        rintro e w4 ⟨rfl, hb4⟩
        have hM4 := hM.below hM.lt hb4
        have hB4 := hB.trans (hb4.mono hB.size)
        clear hM hB hb4
        go_wp2_with ((with_reducible show wpList _ _ _ _ _ _); refine wpList_loadR rfl 38 _ rfl w1.heap.size (by rfl) _ hM4 32 23 Try.underlying38 (rowsize32 _) ?_)
        refine (squared_any N w4).mono ?_
        rintro e w3 ⟨rfl, hb3⟩
        have hM3 := hM4.below hM4.lt hb3
        have hB3 := hB4.trans (hb3.mono hB4.size)
        have KM := Lib.hid (hM3.setRow_ (rowl (mat (N + N)) 32))
        have KB := Lib.hid (below_setRow hB3 hs1 (rowl (mat (N + N)) 32).toArray)
        clear hM4 hB4 hB3
        go_wp2_with ((with_reducible show wpList _ _ _ _ _ _); refine wpList_storeR rfl 38 _ _ rfl w1.heap.size (by rfl) (rowl (mat (N + N)) 32) (by rfl) _ hM3 (by rw [rowl_len, rowl_len]) (rowsize32 _) (rowl_one _ _) ?_)
        go_roundw
        case rel => exact ⟨N + N, itr N c, m / 2, hcl, by omega, rfl, by go_num, HQ.out, KB.out, KM.out⟩
        case measure => simp [intOf]; omega

end Go.Proofs.Ytboaoidimbkidaa
