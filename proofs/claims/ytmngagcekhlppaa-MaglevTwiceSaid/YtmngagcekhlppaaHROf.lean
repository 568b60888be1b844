/-
  The document's Of.
-/
import Derived.Test.YtmngagcekhlppaaHWords
import Derived.Test.YtmngagcekhlppaaGBlk
import Derived.Deep.RegionHeld3
namespace Go.Proofs.Ytmngagcekhlppaa
set_option maxRecDepth 100000
open Go.RowKit Go.Lib
def keyC (key : List UInt8) : Value := .agg (key.map v8).toArray
theorem size4 : (Try.prog.info? 72).map (·.size) = some 4 := by kernel_rfl
theorem size64 : (Try.prog.info? 24).map (·.size) = some 1 := by kernel_rfl
theorem v4L_one (v : V4) : ∀ u ∈ v4L v, u.oneCell' = true := by
  intro u hu
  unfold v4L at hu
  simp only [List.mem_cons, List.not_mem_nil, or_false] at hu
  rcases hu with rfl | rfl | rfl | rfl <;> rfl
theorem key_take (key : List UInt8) {k : Nat} (h : k < key.length) : key.take (k + 1) = key.take k ++ [key[k]] := by
  rw [List.take_append_getElem h]
set_option maxHeartbeats 8000000 in
theorem hrof_any (key : List UInt8) (hk : key.length = 16) (A : Option Addr) (len cap : Nat) (bs : List UInt8) (hlen : len ≤ 100000) (w : World) (hI : Rd w w.heap.size A len bs) :
    Calls Try.prog 33 #[keyC key, .slice A len cap] w fun e w' => e = .returned (.int .u64 (hashW key bs : Nat)) ∧ Below w.heap.size w w' := by
  have HL := Lib.hid hI.len
  have HKL := Lib.hid hk
  obtain ⟨C0, hC0⟩ : ∃ C, (key.map v8).toArray = C := ⟨_, rfl⟩
  unfold keyC
  rw [hC0]
  obtain ⟨Y, hY⟩ : ∃ Y, w.alloc (.cells C0 22) = Y := ⟨_, rfl⟩
  have HK0 := Lib.hid (show Blk Y 22 w.heap.size (key.map v8) by rw [← hY, ← hC0]; exact Blk_10.new w _ _)
  have HB0 := Lib.hid (show Below w.heap.size w Y by rw [← hY]; exact (Below.refl w.heap.size w).alloc (Nat.le_refl _) _)
  have HS0 := Lib.hid (show Y.heap.size = w.heap.size + 1 by rw [← hY, World.size_alloc])
  have HI := Lib.hid hI
  have HY := Lib.hid hY
  obtain ⟨H, hH⟩ : ∃ H, hashW key bs = H := ⟨_, rfl⟩
  rw [hH]
  have HH := Lib.hid hH
  clear hI hC0 hH hY hk
  go_enter Try.func33, Try.ntmps33
  go_wp2_with fail
  rw [HY.out]
  go_loopw [5, 6] (fun v i wr => ∃ k : Nat, k ≤ 16 ∧ i = .int .i64 (k : Int) ∧ Own8 wr (w.heap.size + 1) v (key.take k) ∧ Below (w.heap.size + 1) Y wr)
    (fun _ i _ => 16 - (intOf i).toNat)
  case atStart => exact ⟨0, Nat.zero_le _, rfl, by rw [List.take_zero]; exact Own8.nil_ _ _, Below.refl _ _⟩
  case round =>
    obtain ⟨k, hk, rfl, hown, hbel⟩ := hrel
    have hsz := hbel.size
    rw [HS0.out] at hsz
    by_cases hlt : k < 16
    · have h1 : (k : Int) < 16 := by omega
      have h0 : (0 : Int) ≤ (k : Int) := by omega
      have hkl : k < key.length := by rw [HKL.out]; exact hlt
      have hc := (hbel.cell (p := ⟨w.heap.size, k, none⟩) (by show w.heap.size < w.heap.size + 1; omega)).trans (Blk_10.cell HK0.out (i := k) (v := v8 key[k]) (by rw [List.getElem?_map, List.getElem?_eq_getElem hkl]; rfl))
      have HT := Lib.hid (key_take key hkl)
      obtain ⟨x, hx⟩ : ∃ x, key[k] = x := ⟨_, rfl⟩
      rw [hx] at hc HT
      unfold v8 at hc
      have HO := Lib.hid hown
      have HBE := Lib.hid hbel
      have HSZ := Lib.hid hsz
      have HLE : Hid ((key.take k).length + 1 ≤ 2000000000) := Lib.hid (by rw [List.length_take]; omega)
      clear hx hown hbel hsz hk hkl
      go_wp2_with (at_builtin; refine wpList_append8 rfl _ _ rfl (w.heap.size + 1) _ _ (by rfl) (HO.out.alloc _) _ _ _ _ [x] (by rfl) (Rd.one wr x) HLE.out (by simp; exact Nat.le_of_succ_le HSZ.out) ?_; intro v' w2 ho2 hg2 _)
      have hb2 := (HBE.out.alloc HSZ.out (.cells #[.int .u8 (x.toNat : Int)] 5)).grown hg2 (by simp; exact Nat.le_of_succ_le HSZ.out) HO.out.lt
      rw [← HT.out] at ho2
      go_wp2_with fail
      go_roundw
      case rel => exact ⟨k + 1, by omega, by go_num, ho2, hb2⟩
      case measure => simp [intOf]; omega
    · obtain rfl : k = 16 := by omega
      rw [List.take_of_length_le (by rw [HKL.out]; exact Nat.le_refl _)] at hown
      obtain ⟨A1, n1, c1, rfl, hn1, hc1, hc2, hr1⟩ := hown.sl
      rw [HKL.out] at hn1
      subst hn1
      have hup := fun W => run_upto8 A1 16 c1 8 8 rfl (by omega) W
      have hfr : ∀ W : World, (Instr.slice 63 (.slice A1 16 c1) (some (.int .i64 8)) none none).run Try.prog W = .ok (.slice (cutA A1 c1 8) 8 (c1 - 8)) W := fun W => run_from8 A1 16 c1 8 (by omega) W
      have hrb := hr1.from (l := 8) (by omega) c1 hc1
      have HG1 := Lib.hid (rget_any A1 8 c1 (key.take 8) false (by omega) wr (hr1.take (by omega)))
      have HG2 := Lib.hid (rget_any (cutA A1 c1 8) 8 (c1 - 8) (key.drop 8) false (by omega) wr hrb)
      have hl1 : (key.take 8).length ≤ 8 := by rw [List.length_take]; omega
      have hl2 : (key.drop 8).length ≤ 8 := by rw [List.length_drop, HKL.out]; omega
      rw [get_leN hl1] at HG1
      rw [get_leN hl2] at HG2
      have k1 := leN_lt _ hl1
      have k2 := leN_lt _ hl2
      have hV : Hid (begV key = ⟨leN (key.take 8) ^^^ 8317987319222330741, leN (key.drop 8) ^^^ 7237128888997146477, leN (key.take 8) ^^^ 7816392313619706465, leN (key.drop 8) ^^^ 8387220255154660723⟩) := Lib.hid rfl
      have hVok := Lib.hid (begV_ok HKL.out)
      obtain ⟨K1, hK1⟩ : ∃ x, leN (key.take 8) = x := ⟨_, rfl⟩
      obtain ⟨K2, hK2⟩ : ∃ x, leN (key.drop 8) = x := ⟨_, rfl⟩
      rw [hK1] at HG1 k1 hV
      rw [hK2] at HG2 k2 hV
      have X1 : bits .xor .u64 (K1 : Int) 8317987319222330741 = ((K1 ^^^ 8317987319222330741 : Nat) : Int) := xor64 k1 (b := 8317987319222330741) (by decide)
      have X2 : bits .xor .u64 (K2 : Int) 7237128888997146477 = ((K2 ^^^ 7237128888997146477 : Nat) : Int) := xor64 k2 (b := 7237128888997146477) (by decide)
      have X3 : bits .xor .u64 (K1 : Int) 7816392313619706465 = ((K1 ^^^ 7816392313619706465 : Nat) : Int) := xor64 k1 (b := 7816392313619706465) (by decide)
      have X4 : bits .xor .u64 (K2 : Int) 8387220255154660723 = ((K2 ^^^ 8387220255154660723 : Nat) : Int) := xor64 k2 (b := 8387220255154660723) (by decide)
      obtain ⟨va, hva⟩ : ∃ x, K1 ^^^ 8317987319222330741 = x := ⟨_, rfl⟩
      obtain ⟨vb, hvb⟩ : ∃ x, K2 ^^^ 7237128888997146477 = x := ⟨_, rfl⟩
      obtain ⟨vc, hvc⟩ : ∃ x, K1 ^^^ 7816392313619706465 = x := ⟨_, rfl⟩
      obtain ⟨vd, hvd⟩ : ∃ x, K2 ^^^ 8387220255154660723 = x := ⟨_, rfl⟩
      rw [hva] at X1
      rw [hvb] at X2
      rw [hvc] at X3
      rw [hvd] at X4
      rw [hva, hvb, hvc, hvd] at hV
      have h1 : ¬ ((16 : Nat) : Int) < 16 := by omega
      have HBE := Lib.hid (HB0.out.trans (hbel.mono (Nat.le_succ _)))
      have HSZ := Lib.hid hsz
      clear hva hvb hvc hvd hK1 hK2 k1 k2 hl1 hl2 hrb hr1 hown hbel hsz hc1 hc2 hlt hk
      go_wp2_with (first
        | (with_reducible refine HG1.out.mono ?_; rintro e w' ⟨rfl, rfl⟩)
        | (with_reducible refine HG2.out.mono ?_; rintro e w' ⟨rfl, rfl⟩))
      obtain ⟨V, hVe⟩ : ∃ V, wr.heap.size = V := ⟨_, rfl⟩
      obtain ⟨Z, hZ⟩ : ∃ Z, wr.alloc (.cells #[.int .u64 (va : Int), .int .u64 (vb : Int), .int .u64 (vc : Int), .int .u64 (vd : Int)] 72) = Z := ⟨_, rfl⟩
      have hBl : Blk Z 72 V (v4L ⟨va, vb, vc, vd⟩) := by rw [← hZ, ← hVe]; exact Blk_10.new wr _ (v4L ⟨va, vb, vc, vd⟩)
      rw [← hV.out] at hBl
      have hBZ : Below w.heap.size w Z := by rw [← hZ]; exact HBE.out.alloc (Nat.le_of_succ_le HSZ.out) _
      have hZs : Z.heap.size = V + 1 := by rw [← hZ, World.size_alloc, hVe]
      have hVw : w.heap.size + 1 ≤ V := by rw [← hVe]; exact HSZ.out
      have hW := hwords_any A len cap bs hlen Z ((HI.out.below hBZ).more hBZ.size)
      rw [hZ, hVe]
      clear hZ hVe
      obtain ⟨q, hq⟩ : ∃ q, bs.length / 8 + 1 = q := ⟨_, rfl⟩
      have HHQ : Hid (H = finV (stK (wordW bs) (begV key) q)) := Lib.hid (by rw [← HH.out, ← hq]; rfl)
      have hq2 : q ≤ 20000 := by rw [← hq, HL.out]; omega
      rw [hq, hZs] at hW
      clear hq
      obtain ⟨s0, hs0⟩ : ∃ s, begV key = s := ⟨_, rfl⟩
      rw [hs0] at hBl HHQ hVok
      have HBl := Lib.hid hBl
      have HBZ := Lib.hid hBZ
      have HZs := Lib.hid hZs
      have HVw := Lib.hid hVw
      have HQ2 := Lib.hid hq2
      have HW := Lib.hid hW
      clear hs0 hV hBl hBZ hZs hVw hq2 hW
      refine HW.out.mono ?_
      rintro e w5 ⟨v5, rfl, ho5, hb5⟩
      obtain ⟨A5, n5, c5, rfl, hn5, hc51, hc52, _, hown5⟩ := ho5.sl
      rw [wordsK_len] at hn5
      subst hn5
      have hBl5 : Blk w5 72 V (v4L s0) := (hb5.block V (Nat.lt_succ_self _)).trans HBl.out
      have hB5 : Below w.heap.size w w5 := HBZ.out.trans (hb5.mono (Nat.le_trans (Nat.le_succ _) (Nat.le_trans HVw.out (Nat.le_succ _))))
      have HO5 := Lib.hid ho5
      have HBl5 := Lib.hid hBl5
      have HB5 := Lib.hid hB5
      clear ho5 hb5 hBl5 hB5
      go_wp2_with fail
      go_loopw [11] (fun i wr => ∃ k : Nat, k ≤ n5 ∧ i = .int .i64 (k : Int) ∧ Blk wr 72 V (v4L (stK (wordW bs) s0 k)) ∧ OwnG eU wr (V + 1) (.slice A5 n5 c5) (wordsK bs n5) ∧ Below w.heap.size w wr)
        (fun i _ => n5 - (intOf i).toNat)
      case atStart => exact ⟨0, Nat.zero_le _, rfl, by rw [stK_zero]; exact HBl5.out, HO5.out, HB5.out⟩
      case round =>
        clear HBl5 HO5 HB5
        obtain ⟨k, hk, rfl, hbl, hown, hbel⟩ := hrel
        by_cases hlt : k < n5
        · have h1 : (k : Int) < (n5 : Int) := by omega
          have h0 : (0 : Int) ≤ (k : Int) := by omega
          obtain ⟨g5, rfl, hg51, hg52⟩ := hown5 (by omega)
          have cm := hown.rd.cell1 (wordsK_get bs hlt) (u := .int .u64 (wordW bs k : Int)) rfl
          rw [Nat.zero_add] at cm
          have hS := Lib.hid (stK_succ (wordW bs) s0 k)
          have hok := stK_ok (wordW_lt bs) hVok.out k
          have lm := wordW_lt bs k
          obtain ⟨m, hm⟩ : ∃ m, wordW bs k = m := ⟨_, rfl⟩
          rw [hm] at cm hS lm
          obtain ⟨s, hs⟩ : ∃ s, stK (wordW bs) s0 k = s := ⟨_, rfl⟩
          rw [hs] at hbl hS hok
          clear hs
          obtain ⟨a, b, c, d⟩ := s
          have lk := hok.d
          simp only at lk
          have X := xor64 lk lm
          have hok2 := xorD_ok hok lm
          have c3 := Blk_10.cell hbl (i := 3) (v := .int .u64 (d : Int)) rfl
          have f3 := Blk_10.frozen hbl 3
          have HBl := Lib.hid hbl
          have HO := Lib.hid hown
          have HBE := Lib.hid hbel
          clear hbl hown hbel lk hok
          obtain ⟨x, hx⟩ : ∃ x, d ^^^ m = x := ⟨_, rfl⟩
          rw [hx] at X
          have HX := Lib.hid hx
          clear hx
          go_wp2_with fail
          go_region
          have HNG : Hid ((Value.slice (some ⟨g5, 0, none⟩) n5 c5).ownBlock ≠ some V) := Lib.hid (fun e => by have e2 : g5 = V := Option.some.inj e; omega)
          obtain ⟨w6, hw6⟩ : ∃ w6, (wr.setCell ⟨V, 3, none⟩ (.int .u64 (x : Int))).drew = w6 := ⟨_, rfl⟩
          have hg6 := gb_setCell wr V 3 (.int .u64 (x : Int))
          have HBl6 := Lib.hid (show Blk w6 72 V (v4L (xorD ⟨a, b, c, d⟩ m)) by rw [← hw6]; have := Blk_10.drew (Blk_10.set HBl.out 3 (.int .u64 (x : Int))); unfold xorD; rw [HX.out]; exact this)
          have HO6 := Lib.hid (show OwnG eU w6 (V + 1) (.slice (some ⟨g5, 0, none⟩) n5 c5) (wordsK bs n5) by rw [← hw6]; exact (HO.out.kept hg6 (.inr HNG.out)).drew)
          have HBE6 := Lib.hid (show Below w.heap.size w w6 by rw [← hw6]; exact (below_gb HBE.out hg6 (Nat.le_of_succ_le HVw.out) HBE.out.size).drew)
          rw [hw6]
          clear hw6 hg6 HBl HO HBE c3 f3 cm X HX
          obtain ⟨s1, hs1⟩ : ∃ s1, xorD ⟨a, b, c, d⟩ m = s1 := ⟨_, rfl⟩
          rw [hs1] at HBl6 hok2
          have e2 : rnds 2 s1 = rnd (rnd s1) := by rw [rnds_succ, rnds_succ, rnds_zero]
          have hS2 : stK (wordW bs) s0 (k + 1) = xorA (rnd (rnd s1)) m := by rw [hS.out]; unfold takeV; rw [hs1, e2]
          have hok3 := rnd_ok hok2
          have hok4 := rnd_ok hok3
          have hR1 := fun W => rround_any hok2 W
          have hR2 := fun W => rround_any hok3 W
          obtain ⟨t1, ht1⟩ : ∃ t, rnd s1 = t := ⟨_, rfl⟩
          rw [ht1] at hR1 hR2 hS2 hok3 hok4
          obtain ⟨t2, ht2⟩ : ∃ t, rnd t1 = t := ⟨_, rfl⟩
          rw [ht2] at hR2 hS2 hok4
          have HR1 : Hid (∀ W : World, Calls Try.prog 46 #[.agg (v4L s1).toArray] W fun e w' => e = .returned (.agg (v4L t1).toArray) ∧ Below W.heap.size W w') := Lib.hid hR1
          have HR2 : Hid (∀ W : World, Calls Try.prog 46 #[.agg (v4L t1).toArray] W fun e w' => e = .returned (.agg (v4L t2).toArray) ∧ Below W.heap.size W w') := Lib.hid hR2
          clear e2 hS hs1 hR1 hR2 ht1 ht2 hok3
          go_wp2_with (first
            | ((with_reducible show wpList _ _ _ (⟨some 53, _, _, _, _, _⟩ :: _) _ _); refine wpList_loadM 72 (.tmp 9) rfl (by rfl) V 0 (by rfl) (v4L s1) (Blk_10.range HBl6.out) _ Try.underlying72 rfl size4 ?_)
            | (with_reducible refine (HR1.out w6).mono ?_; rintro e w7 ⟨rfl, hb7⟩; have HBE7 := Lib.hid (HBE6.out.trans (hb7.mono HBE6.out.size)); have HBl7 := Lib.hid (Blk_10.below HBl6.out (Blk_10.lt HBl6.out) hb7); have HO7 := Lib.hid (HO6.out.below hb7); clear hb7)
            | (with_reducible refine (HR2.out w7).mono ?_; rintro e w8 ⟨rfl, hb8⟩; have HBE8 := Lib.hid (HBE7.out.trans (hb8.mono HBE7.out.size)); have HBl8 := Lib.hid (Blk_10.below HBl7.out (Blk_10.lt HBl7.out) hb8); have HO8 := Lib.hid (HO7.out.below hb8); clear hb8)
            | ((with_reducible show wpList _ _ _ (⟨none, .store 72 (.tmp 9) _, _, _, _, _⟩ :: _) _ _); refine wpList_storeBA rfl 72 (.tmp 9) _ rfl V (by rfl) (v4L t2) (by rfl) _ HBl8.out rfl size4 (v4L_one _) ?_; intro w9 hbl9 hg9; have HBl9 := Lib.hid hbl9; have HO9 := Lib.hid (HO8.out.kept hg9 (.inr HNG.out)); have HBE9 := Lib.hid (below_gb HBE8.out hg9 (Nat.le_of_succ_le HVw.out) HBE8.out.size); clear hbl9 hg9))
          clear HBl6 HO6 HBE6 HBl7 HO7 HBE7 HBl8 HO8 HBE8 HR1 HR2
          obtain ⟨a2, b2, c2, d2⟩ := t2
          have lk := hok4.a
          have hS2 := Lib.hid hS2
          simp only at lk
          have X := xor64 lk lm
          have c0 := Blk_10.cell HBl9.out (i := 0) (v := .int .u64 (a2 : Int)) rfl
          have f0 := Blk_10.frozen HBl9.out 0
          have cm := HO9.out.rd.cell1 (wordsK_get bs hlt) (u := .int .u64 (wordW bs k : Int)) rfl
          rw [Nat.zero_add, hm] at cm
          obtain ⟨y, hy⟩ : ∃ y, a2 ^^^ m = y := ⟨_, rfl⟩
          rw [hy] at X
          have HX := Lib.hid hy
          clear hy lk hok4 hok2
          have hn5 := HQ2.out
          go_wp2_with fail
          go_region
          all_goals (
            have hga := gb_setCell w9 V 0 (.int .u64 (y : Int))
            have HBla : Hid (Blk (w9.setCell ⟨V, 0, none⟩ (.int .u64 (y : Int))).drew 72 V (v4L (stK (wordW bs) s0 (k + 1)))) := Lib.hid (by rw [hS2.out]; have := Blk_10.drew (Blk_10.set HBl9.out 0 (.int .u64 (y : Int))); unfold xorA; rw [HX.out]; exact this)
            have HOa : Hid (OwnG eU (w9.setCell ⟨V, 0, none⟩ (.int .u64 (y : Int))).drew (V + 1) (.slice (some ⟨g5, 0, none⟩) n5 c5) (wordsK bs n5)) := Lib.hid (HO9.out.kept hga (.inr HNG.out)).drew
            have HBEa : Hid (Below w.heap.size w (w9.setCell ⟨V, 0, none⟩ (.int .u64 (y : Int))).drew) := Lib.hid (below_gb HBE9.out hga (Nat.le_of_succ_le HVw.out) HBE9.out.size).drew
            clear hga HBl9 HO9 HBE9 c0 f0 cm X HX hS2
            try go_wp2_with fail
            refine ⟨⟨k + 1, hlt, by go_num, HBla.out, HOa.out, HBEa.out⟩, ?_⟩
            simp [intOf]
            omega)
        · obtain rfl : k = n5 := by omega
          have h1 : ¬ (k : Int) < (k : Int) := by omega
          have hok := stK_ok (wordW_lt bs) hVok.out k
          obtain ⟨s, hs⟩ : ∃ s, stK (wordW bs) s0 k = s := ⟨_, rfl⟩
          rw [hs] at hbl hok HHQ
          clear hs
          obtain ⟨a, b, c, d⟩ := s
          have lk := hok.c
          simp only at lk
          have X : bits .xor .u64 (c : Int) 255 = ((c ^^^ 255 : Nat) : Int) := xor64 lk (b := 255) (by decide)
          have hok2 := xorC_ok hok (m := 255) (by decide)
          have c2 := Blk_10.cell hbl (i := 2) (v := .int .u64 (c : Int)) rfl
          have f2 := Blk_10.frozen hbl 2
          have HBl := Lib.hid hbl
          have HBE := Lib.hid hbel
          obtain ⟨x, hx⟩ : ∃ x, c ^^^ 255 = x := ⟨_, rfl⟩
          rw [hx] at X
          have HX := Lib.hid hx
          clear hx hbl hown hbel lk hok hlt hk
          obtain ⟨s1, hs1⟩ : ∃ s1, xorC ⟨a, b, c, d⟩ 255 = s1 := ⟨_, rfl⟩
          have hcs : Hid ((v4L ⟨a, b, c, d⟩).set 2 (.int .u64 (x : Int)) = v4L s1) := Lib.hid (by rw [← hs1, ← HX.out]; rfl)
          rw [hs1] at hok2
          have e4 : rnds 4 s1 = rnd (rnd (rnd (rnd s1))) := by rw [rnds_succ, rnds_succ, rnds_succ, rnds_succ, rnds_zero]
          have hF : H = (rnds 4 s1).a ^^^ (rnds 4 s1).b ^^^ (rnds 4 s1).c ^^^ (rnds 4 s1).d := by rw [HHQ.out]; unfold finV; rw [hs1]
          have hok6 := rnds_ok 4 hok2
          rw [e4] at hF hok6
          obtain ⟨t0, ht0⟩ : ∃ t, rnd s1 = t := ⟨_, rfl⟩
          have hk0 := rnd_ok hok2
          have HR0 : Hid (∀ W : World, Calls Try.prog 46 #[.agg (v4L s1).toArray] W fun e w' => e = .returned (.agg (v4L t0).toArray) ∧ Below W.heap.size W w') := Lib.hid (by rw [← ht0]; exact fun W => rround_any hok2 W)
          rw [ht0] at hk0 hF hok6
          clear ht0
          obtain ⟨t1, ht1⟩ : ∃ t, rnd t0 = t := ⟨_, rfl⟩
          have hk1 := rnd_ok hk0
          have HR1 : Hid (∀ W : World, Calls Try.prog 46 #[.agg (v4L t0).toArray] W fun e w' => e = .returned (.agg (v4L t1).toArray) ∧ Below W.heap.size W w') := Lib.hid (by rw [← ht1]; exact fun W => rround_any hk0 W)
          rw [ht1] at hk1 hF hok6
          clear ht1
          obtain ⟨t2, ht2⟩ : ∃ t, rnd t1 = t := ⟨_, rfl⟩
          have hk2 := rnd_ok hk1
          have HR2 : Hid (∀ W : World, Calls Try.prog 46 #[.agg (v4L t1).toArray] W fun e w' => e = .returned (.agg (v4L t2).toArray) ∧ Below W.heap.size W w') := Lib.hid (by rw [← ht2]; exact fun W => rround_any hk1 W)
          rw [ht2] at hk2 hF hok6
          clear ht2
          obtain ⟨t3, ht3⟩ : ∃ t, rnd t2 = t := ⟨_, rfl⟩
          have hk3 := rnd_ok hk2
          have HR3 : Hid (∀ W : World, Calls Try.prog 46 #[.agg (v4L t2).toArray] W fun e w' => e = .returned (.agg (v4L t3).toArray) ∧ Below W.heap.size W w') := Lib.hid (by rw [← ht3]; exact fun W => rround_any hk2 W)
          rw [ht3] at hk3 hF hok6
          clear ht3
          clear hs1 e4 hok2 hk0 hk1 hk2 hk3 HX
          obtain ⟨a4, b4, c4, d4⟩ := t3
          obtain ⟨la, lb, lc, ld⟩ := hok6
          simp only at la lb lc ld hF
          have Y1 := xor64 la lb
          have ly1 := xorW_lt la lb
          obtain ⟨y1, hy1⟩ : ∃ y, a4 ^^^ b4 = y := ⟨_, rfl⟩
          rw [hy1] at Y1 ly1 hF
          have Y2 := xor64 ly1 lc
          have ly2 := xorW_lt ly1 lc
          obtain ⟨y2, hy2⟩ : ∃ y, y1 ^^^ c4 = y := ⟨_, rfl⟩
          rw [hy2] at Y2 ly2 hF
          have Y3 := xor64 ly2 ld
          rw [← hF] at Y3
          clear hy1 hy2 hF la lb lc ld ly1 ly2 HHQ
          have h4 : ∀ g i : Nat, Hid (g = g) := fun _ _ => Lib.hid rfl
          clear h4
          go_wp2_with (first
            | ((with_reducible show wpList _ _ _ (⟨none, .store 24 (.tmp 67) _, _, _, _, _⟩ :: _) _ _); refine wpList_storeB1 rfl 24 (.tmp 67) _ rfl V 2 (by rfl) (.int .u64 (x : Int)) (by rfl) _ _ HBl.out (by simp [v4L]) size64 rfl rfl ?_; intro w6 hbl6 hg6; rw [hcs.out] at hbl6; have HBl6 := Lib.hid hbl6; have HBE6 := Lib.hid (below_gb HBE.out hg6 (Nat.le_of_succ_le HVw.out) HBE.out.size); clear hbl6 hg6)
            | ((with_reducible show wpList _ _ _ (⟨some 68, _, _, _, _, _⟩ :: _) _ _); refine wpList_loadM 72 (.tmp 9) rfl (by rfl) V 0 (by rfl) (v4L s1) (Blk_10.range HBl6.out) _ Try.underlying72 rfl size4 ?_)
            | (with_reducible refine (HR0.out w6).mono ?_; rintro e w7 ⟨rfl, hb⟩; have HBE7 := Lib.hid (HBE6.out.trans (hb.mono HBE6.out.size)); have HBl7 := Lib.hid (Blk_10.below HBl6.out (Blk_10.lt HBl6.out) hb); clear hb)
            | (with_reducible refine (HR1.out w7).mono ?_; rintro e w8 ⟨rfl, hb⟩; have HBE8 := Lib.hid (HBE7.out.trans (hb.mono HBE7.out.size)); have HBl8 := Lib.hid (Blk_10.below HBl7.out (Blk_10.lt HBl7.out) hb); clear hb)
            | (with_reducible refine (HR2.out w8).mono ?_; rintro e w9 ⟨rfl, hb⟩; have HBE9 := Lib.hid (HBE8.out.trans (hb.mono HBE8.out.size)); have HBl9 := Lib.hid (Blk_10.below HBl8.out (Blk_10.lt HBl8.out) hb); clear hb)
            | (with_reducible refine (HR3.out w9).mono ?_; rintro e w10 ⟨rfl, hb⟩; have HBE10 := Lib.hid (HBE9.out.trans (hb.mono HBE9.out.size)); have HBl10 := Lib.hid (Blk_10.below HBl9.out (Blk_10.lt HBl9.out) hb); clear hb)
            | ((with_reducible show wpList _ _ _ (⟨none, .store 72 (.tmp 9) _, _, _, _, _⟩ :: _) _ _); refine wpList_storeBA rfl 72 (.tmp 9) _ rfl V (by rfl) (v4L ⟨a4, b4, c4, d4⟩) (by rfl) _ HBl10.out rfl size4 (v4L_one _) ?_; intro wz hblz hgz; have c0 := Blk_10.cell hblz (i := 0) (v := .int .u64 (a4 : Int)) rfl; have c1' := Blk_10.cell hblz (i := 1) (v := .int .u64 (b4 : Int)) rfl; have c2' := Blk_10.cell hblz (i := 2) (v := .int .u64 (c4 : Int)) rfl; have c3' := Blk_10.cell hblz (i := 3) (v := .int .u64 (d4 : Int)) rfl; have HBEz := Lib.hid (below_gb HBE10.out hgz (Nat.le_of_succ_le HVw.out) HBE10.out.size); clear hblz hgz))
          go_ret
          exact ⟨rfl, HBEz.out⟩
end Go.Proofs.Ytmngagcekhlppaa
