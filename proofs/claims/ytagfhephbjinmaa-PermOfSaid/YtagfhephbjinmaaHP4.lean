/-
  slices.Concat of whatever length, the program's begin and last.
-/
import Derived.Test.YtagfhephbjinmaaHP2
namespace Go.Proofs.Ytagfhephbjinmaa
set_option maxRecDepth 100000
open Go.RowKit Go.Lib

set_option maxHeartbeats 1000000 in
theorem grow_nought (w : World) : Calls Try.prog 36 #[.slice none 0 0, .int .i64 0] w fun e W' => e = .returned (.slice none 0 0) ∧ w = W' := by
  go_enter Try.func36, Try.ntmps36
  go_wp2_with fail
  go_ret
  exact ⟨rfl, rfl⟩
theorem grow_all (n : Nat) (hn : n ≤ 1000000) (w : World) :
    Calls Try.prog 36 #[.slice none 0 0, .int .i64 (n : Int)] w fun e W' => ∃ v, e = .returned v ∧ Own8 W' w.heap.size v [] ∧ Below w.heap.size w W' := by
  rcases Nat.eq_zero_or_pos n with rfl | h0
  · refine (grow_nought w).mono ?_
    rintro e w' ⟨rfl, rfl⟩
    exact ⟨_, rfl, Own8.nil_ _ _, Below.refl _ _⟩
  · refine (grow_any n h0 hn w).mono ?_
    rintro e w' ⟨g, C, rfl, ho, hb⟩
    exact ⟨_, rfl, ho, hb⟩
set_option maxHeartbeats 2000000 in
/-- slices.Concat -/
theorem concat_all (A : Option Addr) (n cap : Nat) (l : List (List UInt8)) (hn : n ≤ 1000) (hlen : l.flatten.length ≤ 1000000) (w : World) {B : Nat} (hI : LsAt w B A n l) (hB : B ≤ w.heap.size) :
    Calls Try.prog 28 #[.slice A n cap] w fun e W' => ∃ v, e = .returned v ∧ Own8 W' w.heap.size v l.flatten ∧ Below w.heap.size w W' := by
  obtain ⟨T, hT⟩ : ∃ T, l.flatten.length = T := ⟨_, rfl⟩
  rw [hT] at hlen
  have HT := Lib.hid hT
  have HG := Lib.hid (grow_all T hlen w)
  have HS := Lib.hid hI.size
  clear hT
  go_enter Try.func28, Try.ntmps28
  go_wp2_with fail
  go_loop [3, 11] (fun s i => ∃ (k S : Nat), k ≤ n ∧ s = .int .i64 (S : Int) ∧ i = .int .i64 (k : Int) ∧ S + (l.drop k).flatten.length = T)
    (fun _ i => n - (intOf i).toNat)
  case atStart => exact ⟨0, 0, by omega, rfl, rfl, by rw [List.drop_zero, Nat.zero_add]; exact HT.out⟩
  case round =>
    obtain ⟨k, S, hk, rfl, rfl, hs⟩ := hrel
    by_cases hlt : k < n
    · have hlt' : (k : Int) < (n : Int) := by omega
      obtain ⟨xs, hxs⟩ : ∃ xs, l[k]? = some xs := ⟨_, List.getElem?_eq_getElem (by rw [HS.out]; exact hlt)⟩
      obtain ⟨b, off, A', n', c', rfl, hc, hr⟩ := hI.at hxs
      rw [flat_drop hxs, List.length_append, hr.len] at hs
      have hneg : ¬ ((S : Int) + (n' : Int) < 0) := by omega
      have HQ := Lib.hid hs
      have hbd : S + n' ≤ 1000000 := by omega
      clear hs hxs hr
      go_wp2_with fail
      go_round
      case rel => exact ⟨k + 1, S + n', by omega, by go_num, by go_num, by rw [← HQ.out, Nat.add_assoc]⟩
      case measure => simp [intOf]; omega
    · obtain rfl : k = n := by omega
      rw [List.drop_of_length_le (by rw [HS.out]; omega)] at hs
      have hs' : S = T := hs
      subst hs'
      clear hs hlt
      go_wp2_with fail
      refine HG.out.mono ?_
      rintro e w1 ⟨v1, rfl, ho1, hb1⟩
      go_wp2_with fail
      go_loopw [6, 27] (fun v i wr => ∃ (j : Nat), j ≤ k ∧ i = .int .i64 (j : Int) ∧ Own8 wr w.heap.size v (l.take j).flatten ∧ Below w.heap.size w wr)
        (fun _ i _ => k - (intOf i).toNat)
      case atStart => exact ⟨0, by omega, rfl, by rw [List.take_zero]; exact ho1, hb1⟩
      case round =>
        clear ho1 hb1
        obtain ⟨j, hj, rfl, hown, hbel⟩ := hrel
        have hsz := hbel.size
        have hI2 := hI.below (hbel.mono hB)
        by_cases hlt : j < k
        · have hlt' : (j : Int) < (k : Int) := by omega
          obtain ⟨xs, hxs⟩ : ∃ xs, l[j]? = some xs := ⟨_, List.getElem?_eq_getElem (by rw [HS.out]; exact hlt)⟩
          obtain ⟨b, off, A', n', c', rfl, hc, hr⟩ := hI2.at hxs
          have ht := flat_take hxs
          have hbd : (l.take j).flatten.length + n' ≤ 1000000 := by
            have e : l.flatten = (l.take j).flatten ++ (l.drop j).flatten := by rw [← List.flatten_append, List.take_append_drop]
            have e2 := HT.out
            rw [e, flat_drop hxs, List.length_append, List.length_append, hr.len] at e2
            omega
          have HQ := Lib.hid ht
          have HB := Lib.hid hbd
          clear ht hxs hbd
          go_wp2_with (at_builtin; refine wpList_append8 rfl _ _ rfl w.heap.size _ _ (by rfl) hown _ _ _ _ xs (by rfl) hr (by have := HB.out; omega) hsz ?_; intro v' w3 ho' hg' _)
          have hb3 := hbel.grown hg' hsz hown.lt
          rw [HQ.out] at ho'
          go_wp2_with fail
          go_roundw
          case rel => exact ⟨j + 1, by omega, by go_num, ho', hb3⟩
          case measure => simp [intOf]; omega
        · obtain rfl : j = k := by omega
          rw [List.take_of_length_le (by rw [HS.out]; omega)] at hown
          go_wp2_with fail
          go_ret
          exact ⟨_, rfl, hown, hbel⟩
theorem rd_key8 {w : World} {T : TypeId} {g : Nat} {bs : List UInt8} {n : Nat} (h : Blk w T g (bs.map v8)) (hn : bs.length = n) : Rd w (g + 1) (some ⟨g, 0, none⟩) n bs :=
  ⟨hn, fun _ => ⟨g, 0, rfl, Nat.lt_succ_self _, fun j x hx => by
    rw [Nat.zero_add]
    exact Blk_10.cell h (by rw [List.getElem?_map, hx]; rfl)⟩⟩
theorem size4w : (Try.prog.info? 53).map (·.size) = some 4 := by kernel_rfl
theorem results_v4 {fn : Func} {p : Tmp} (hr : fn.results = #[.cell p 53]) (tmps : Array Value) (w : World) (g : Nat) (hp : tmps.getD p undef = .pointer (some ⟨g, 0, none⟩)) (v : V4) (hb : Blk w 53 g (v4L v)) :
    (results fn tmps).run Try.prog w = .ok (v4C v) w := by
  have hl := run_loadVar_mid (P := Try.prog) w g 0 53 (v4L v) _ (Blk_10.range hb) Try.underlying53 rfl size4w
  rw [results_cell0 hr, hp]
  simp [Result.andThen, asAddr, hl, v4C]
set_option maxHeartbeats 4000000 in
theorem pbegin_any (key : List UInt8) (hk : key.length = 16) (w : World) : Calls Try.prog 29 #[keyC key] w fun e w' => e = .returned (v4C (begV key)) ∧ Below w.heap.size w w' := by
  have HKL := Lib.hid hk
  obtain ⟨C0, hC0⟩ : ∃ C, (key.map v8).toArray = C := ⟨_, rfl⟩
  unfold keyC
  rw [hC0]
  obtain ⟨Y, hY⟩ : ∃ Y, (w.alloc (.cells C0 28)).alloc (.cells #[.int .u64 0, .int .u64 0, .int .u64 0, .int .u64 0] 53) = Y := ⟨_, rfl⟩
  have HK0 := Lib.hid (show Blk Y 28 w.heap.size (key.map v8) by rw [← hY, ← hC0]; exact Blk_10.alloc (Blk_10.new w _ _) _)
  have HW0 := Lib.hid (show Blk Y 53 (w.heap.size + 1) [.int .u64 0, .int .u64 0, .int .u64 0, .int .u64 0] by
    rw [← hY]
    have := Blk_10.new (w.alloc (.cells C0 28)) 53 [.int .u64 0, .int .u64 0, .int .u64 0, .int .u64 0]
    rwa [World.size_alloc] at this)
  have HB0 := Lib.hid (show Below w.heap.size w Y by rw [← hY]; exact ((Below.refl w.heap.size w).alloc (Nat.le_refl _) _).alloc (by simp) _)
  have HS0 := Lib.hid (show Y.heap.size = w.heap.size + 1 + 1 by rw [← hY, World.size_alloc, World.size_alloc])
  have HY := Lib.hid hY
  have hl1 : (key.take 8).length ≤ 8 := by rw [List.length_take]; omega
  have hl2 : (key.drop 8).length ≤ 8 := by rw [List.length_drop, hk]; omega
  have HG1 : Hid (∀ W, Below Y.heap.size Y W → Calls Try.prog 32 #[.slice (some ⟨w.heap.size, 0, none⟩) 8 16, .bool false] W fun e w' => e = .returned (.int .u64 (leN (key.take 8) : Nat)) ∧ Below W.heap.size W w') := Lib.hid (fun W hW => by
    have h := get_any (some ⟨w.heap.size, 0, none⟩) 8 16 (key.take 8) false (by omega) (by omega) (by unfold maxLen; omega) W (((rd_key8 (Blk_10.below HK0.out (by rw [HS0.out]; omega) hW) HKL.out).take (k := 8) (by omega)).more (by have := hW.size; rw [HS0.out] at this; omega))
    rwa [get_leN hl1] at h)
  have HG2 : Hid (∀ W, Below Y.heap.size Y W → Calls Try.prog 32 #[.slice (some ⟨w.heap.size, 8, none⟩) 8 8, .bool false] W fun e w' => e = .returned (.int .u64 (leN (key.drop 8) : Nat)) ∧ Below W.heap.size W w') := Lib.hid (fun W hW => by
    have hp := (rd_key8 (Blk_10.below HK0.out (by rw [HS0.out]; omega) hW) HKL.out).part (k := 8) (n := 8) (by omega) (by omega)
    rw [List.take_of_length_le hl2] at hp
    have h := get_any (some ⟨w.heap.size, 8, none⟩) 8 8 (key.drop 8) false (by omega) (by omega) (by unfold maxLen; omega) W (hp.more (by have := hW.size; rw [HS0.out] at this; omega))
    rwa [get_leN hl2] at h)
  have k1 := leN_lt _ hl1
  have k2 := leN_lt _ hl2
  have hV : Hid (begV key = ⟨leN (key.take 8) ^^^ 8317987319222330741, leN (key.drop 8) ^^^ 7237128888997146477, leN (key.take 8) ^^^ 7816392313619706465, leN (key.drop 8) ^^^ 8387220255154660723⟩) := Lib.hid rfl
  obtain ⟨K1, hK1⟩ : ∃ x, leN (key.take 8) = x := ⟨_, rfl⟩
  obtain ⟨K2, hK2⟩ : ∃ x, leN (key.drop 8) = x := ⟨_, rfl⟩
  rw [hK1] at HG1 k1 hV
  rw [hK2] at HG2 k2 hV
  have X1 : bits .xor .u64 (K1 : Int) 8317987319222330741 = ((K1 ^^^ 8317987319222330741 : Nat) : Int) := xor64 k1 (b := 8317987319222330741) (by decide)
  have X2 : bits .xor .u64 (K2 : Int) 7237128888997146477 = ((K2 ^^^ 7237128888997146477 : Nat) : Int) := xor64 k2 (b := 7237128888997146477) (by decide)
  have X3 : bits .xor .u64 (K1 : Int) 7816392313619706465 = ((K1 ^^^ 7816392313619706465 : Nat) : Int) := xor64 k1 (b := 7816392313619706465) (by decide)
  have X4 : bits .xor .u64 (K2 : Int) 8387220255154660723 = ((K2 ^^^ 8387220255154660723 : Nat) : Int) := xor64 k2 (b := 8387220255154660723) (by decide)
  obtain ⟨va, hva⟩ : ∃ x, K1 ^^^ 8317987319222330741 = x := ⟨_, rfl⟩
  obtain ⟨vb, hvb⟩ : ∃ x, K2 ^^^ 7237128888997146477 = x := ⟨_, rfl⟩
  obtain ⟨vc, hvc⟩ : ∃ x, K1 ^^^ 7816392313619706465 = x := ⟨_, rfl⟩
  obtain ⟨vd, hvd⟩ : ∃ x, K2 ^^^ 8387220255154660723 = x := ⟨_, rfl⟩
  rw [hva] at X1
  rw [hvb] at X2
  rw [hvc] at X3
  rw [hvd] at X4
  rw [hva, hvb, hvc, hvd] at hV
  rw [hV.out]
  clear hva hvb hvc hvd hK1 hK2 k1 k2 hl1 hl2 hC0 hY hk hV
  go_enter Try.func29, Try.ntmps29
  go_wp2_with fail
  (try rw [HY.out])
  refine wp_region_held_drew (S := fun W => Below Y.heap.size Y W) (by kernel_rfl) ((Below.refl Y.heap.size Y).drew) (fun hHeld => ?_)
  refine tk 0 5 (.slice (some ⟨w.heap.size, 0, none⟩) 8 16) rfl hHeld ?_
  simp only [Act.put, sA, sZ, sS]
  refine tk 2 7 (.slice (some ⟨w.heap.size, 8, none⟩) 8 8) rfl hHeld ?_
  simp only [Act.put, sA, sZ, sS]
  refine wpAnyH_ready (rs := [1]) (by kernel_rfl) (by simp) (AllReadyH.cons (o := ⟨some 6, _, _, _, _, _⟩) rfl (fun K hK => ?_) AllReadyH.nil)
  go_simp
  refine (HG1.out Y.drew hHeld).mono ?_
  rintro e W1 ⟨rfl, hb1⟩
  have HB1 : Hid (Below Y.heap.size Y W1) := Lib.hid (hHeld.trans (hb1.mono (Nat.le_refl _)))
  clear hb1
  refine hK.out _ _ (HB1.out) (fun hHeld => ?_)
  clear hK K 
  refine wpAnyH_ready (rs := [3]) (by kernel_rfl) (by simp) (AllReadyH.cons (o := ⟨some 8, _, _, _, _, _⟩) rfl (fun K hK => ?_) AllReadyH.nil)
  go_simp
  refine (HG2.out W1 hHeld).mono ?_
  rintro e W2 ⟨rfl, hb2⟩
  have HB2 : Hid (Below Y.heap.size Y W2) := Lib.hid (HB1.out.trans (hb2.mono HB1.out.size))
  clear hb2
  refine hK.out _ _ (HB2.out) (fun hHeld => ?_)
  clear hK K 
  refine tk 4 3 (.int .u64 (K1 : Int)) rfl hHeld ?_
  simp only [Act.put, sA, sZ, sS]
  refine tk 5 4 (.int .u64 (K2 : Int)) rfl hHeld ?_
  simp only [Act.put, sA, sZ, sS]
  refine wpAnyH_done (by kernel_rfl) ?_ _
  have HW2 : Hid (Blk W2 53 (w.heap.size + 1) [.int .u64 0, .int .u64 0, .int .u64 0, .int .u64 0]) := Lib.hid (Blk_10.below HW0.out (by rw [HS0.out]; omega) HB2.out)
  have HBW : Hid (Below w.heap.size w W2) := Lib.hid (HB0.out.trans (HB2.out.mono (by rw [HS0.out]; omega)))
  clear hHeld
  go_wp2_with ((with_reducible show wpList _ _ _ (⟨none, .store 53 (.tmp 2) _, _, _, _, _⟩ :: _) _ _); refine wpList_storeBA rfl 53 (.tmp 2) (.tmp 17) rfl (w.heap.size + 1) (by rfl) (v4L ⟨va, vb, vc, vd⟩) (by rfl) [.int .u64 0, .int .u64 0, .int .u64 0, .int .u64 0] HW2.out rfl size4w (v4L_one _) ?_; intro W3 hb3 hg3; have HB3 : Hid (Below w.heap.size w W3) := Lib.hid (below_gb HBW.out hg3 (by omega) HBW.out.size); have HW3 := Lib.hid hb3; clear hb3 hg3)
  refine bodyPost_ret (v := v4C ⟨va, vb, vc, vd⟩) (results_v4 rfl _ _ (w.heap.size + 1) (by rfl) _ HW3.out) rfl ?_
  exact ⟨rfl, HB3.out⟩
theorem shl56 (n : Nat) : IntKind.u64.wrap ((n : Int) * 72057594037927936) = ((n % 256 * 72057594037927936 : Nat) : Int) := by
  have e : (n : Int) * 72057594037927936 = ((n * 72057594037927936 : Nat) : Int) := by rw [Int.natCast_mul]; rfl
  rw [e, wrap64_nat]
  congr 1
  omega
theorem or56 (a k : Nat) (ha : a < 72057594037927936) (hk : k < 256) : bits .or .u64 (a : Int) ((k * 72057594037927936 : Nat) : Int) = ((a + k * 72057594037927936 : Nat) : Int) := by
  rw [u64_or_nat _ _ (by omega) (by omega)]
  congr 1
  have := Nat.shiftLeft_add_eq_or_of_lt (i := 56) (b := a) (by omega) k
  rw [Nat.shiftLeft_eq] at this
  rw [Nat.or_comm, Nat.add_comm]
  exact this.symm
set_option maxHeartbeats 2000000 in
theorem plast_any (A : Option Addr) (n cap : Nat) (bs : List UInt8) (hn : n ≤ 100000) (hc : n ≤ cap) (hm : cap ≤ maxLen) (w : World) (hI : Rd w w.heap.size A n bs) :
    Calls Try.prog 33 #[.slice A n cap] w fun e w' => e = .returned (.int .u64 (lastW bs : Nat)) ∧ Below w.heap.size w w' := by
  have hl := hI.len
  obtain ⟨q, hq⟩ : ∃ q, n / 8 = q := ⟨_, rfl⟩
  have hqn : q * 8 ≤ n := by omega
  have hfr := fun W => run_from8 A n cap (q * 8) hqn W
  have hr := hI.from hqn cap hc
  have hl7 : (bs.drop (q * 8)).length ≤ 7 := by rw [List.length_drop]; omega
  have hg := get_any (cutA A cap (q * 8)) (n - q * 8) (cap - q * 8) (bs.drop (q * 8)) false (by omega) (by omega) (by omega) w hr
  rw [get_leN (by omega)] at hg
  have hsm := leN_small _ hl7
  have ho := or56 _ (n % 256) hsm (by omega)
  have hs := shl56 n
  have hL : lastW bs = leN (bs.drop (q * 8)) + n % 256 * 72057594037927936 := by
    unfold lastW
    rw [hl, hq, Nat.mul_comm 8 q]
  rw [← hL] at ho
  obtain ⟨L, hL2⟩ : ∃ L, lastW bs = L := ⟨_, rfl⟩
  rw [hL2] at ho ⊢
  obtain ⟨A1, hA1⟩ : ∃ A1, cutA A cap (q * 8) = A1 := ⟨_, rfl⟩
  obtain ⟨c1, hc1⟩ : ∃ c1, cap - q * 8 = c1 := ⟨_, rfl⟩
  obtain ⟨n1, hn1⟩ : ∃ n1, n - q * 8 = n1 := ⟨_, rfl⟩
  rw [hA1, hc1, hn1] at hfr hg
  obtain ⟨a, ha⟩ : ∃ a, leN (bs.drop (q * 8)) = a := ⟨_, rfl⟩
  rw [ha] at ho hg
  rw [← hs] at ho
  have HG := Lib.hid hg
  have hqi : (n : Int) / 8 = (q : Int) := by omega
  have hwr : IntKind.u64.wrap (n : Int) = (n : Int) := by rw [IntKind.wrap_u64]; omega
  rw [show ((q * 8 : Nat) : Int) = (q : Int) * 8 from by omega] at hfr
  clear hA1 hc1 hn1 hs hL hL2 ha hsm hr hl7 hg hl hI hq hm
  go_enter Try.func33, Try.ntmps33
  go_wp2_with (with_reducible refine HG.out.mono ?_; rintro e w1 ⟨rfl, hb1⟩)
  go_ret
  exact ⟨rfl, hb1⟩
end Go.Proofs.Ytagfhephbjinmaa
