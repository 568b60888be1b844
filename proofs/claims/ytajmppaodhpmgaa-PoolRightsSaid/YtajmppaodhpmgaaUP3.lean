/-
  The program: mayBe, Name.
  The program: rightAddr.
  The program: right.
-/
import Derived.Test.YtajmppaodhpmgaaNmR
import Derived.Test.YtajmppaodhpmgaaSlK2
import Derived.Test.YtajmppaodhpmgaaURef5
import Derived.Test.YtajmppaodhpmgaaQ8
import Derived.Shelf.RegionOpen
import Derived.Test.YtajmppaodhpmgaaWRt
import Derived.Test.YtajmppaodhpmgaaWSm
import Derived.BigQuiet
namespace Go.Proofs.Ytajmppaodhpmgaa
set_option maxRecDepth 100000
open Go.RowKit Go.Lib

set_option maxHeartbeats 4000000 in
theorem pmay_any (x : UInt8) (w : World) : Calls Try.prog 28 #[v8 x] w fun e w' => e = .returned (.bool (nmC x)) ∧ w = w' := by
  obtain ⟨c, hc⟩ : ∃ c, x.toNat = c := ⟨_, rfl⟩
  have hv : nmC x = (decide (97 ≤ c ∧ c ≤ 122) || decide (48 ≤ c ∧ c ≤ 57) || decide (c = 45) || decide (c = 46)) := by rw [← hc]; rfl
  have h9 : c < 256 := by rw [← hc]; exact x.toNat_lt
  unfold v8
  rw [hc, hv]
  clear hv hc
  by_cases p1 : 97 ≤ c
  · by_cases p2 : c ≤ 122
    · have g0 : (97 : Int) ≤ (c : Int) := by omega
      have g1 : (c : Int) ≤ 122 := by omega
      rw [show (decide (97 ≤ c ∧ c ≤ 122) || decide (48 ≤ c ∧ c ≤ 57) || decide (c = 45) || decide (c = 46)) = true by simp; omega]
      go_enter Try.func28, Try.ntmps28
      go_wp2_with fail
      go_ret
      exact ⟨rfl, rfl⟩
    · have g0 : (97 : Int) ≤ (c : Int) := by omega
      have g1 : ¬ (c : Int) ≤ 122 := by omega
      have g2 : (48 : Int) ≤ (c : Int) := by omega
      have g3 : ¬ (c : Int) ≤ 57 := by omega
      have g4 : ((c : Int) == 45) = false := by simp; omega
      have g5 : ((c : Int) == 46) = false := by simp; omega
      have g6 : (c == 45) = false := by simp; omega
      have g7 : (c == 46) = false := by simp; omega
      have g8 : ¬ c = 45 := by omega
      have g9 : ¬ c = 46 := by omega
      rw [show (decide (97 ≤ c ∧ c ≤ 122) || decide (48 ≤ c ∧ c ≤ 57) || decide (c = 45) || decide (c = 46)) = false by simp; omega]
      go_enter Try.func28, Try.ntmps28
      go_wp2_with fail
      go_ret
      exact ⟨rfl, rfl⟩
  · by_cases p2 : 48 ≤ c
    · by_cases p3 : c ≤ 57
      · have g0 : ¬ (97 : Int) ≤ (c : Int) := by omega
        have g1 : (48 : Int) ≤ (c : Int) := by omega
        have g2 : (c : Int) ≤ 57 := by omega
        rw [show (decide (97 ≤ c ∧ c ≤ 122) || decide (48 ≤ c ∧ c ≤ 57) || decide (c = 45) || decide (c = 46)) = true by simp; omega]
        go_enter Try.func28, Try.ntmps28
        go_wp2_with fail
        go_ret
        exact ⟨rfl, rfl⟩
      · have g0 : ¬ (97 : Int) ≤ (c : Int) := by omega
        have g1 : (48 : Int) ≤ (c : Int) := by omega
        have g2 : ¬ (c : Int) ≤ 57 := by omega
        have g4 : ((c : Int) == 45) = false := by simp; omega
        have g5 : ((c : Int) == 46) = false := by simp; omega
        have g6 : (c == 45) = false := by simp; omega
        have g7 : (c == 46) = false := by simp; omega
        have g8 : ¬ c = 45 := by omega
        have g9 : ¬ c = 46 := by omega
        rw [show (decide (97 ≤ c ∧ c ≤ 122) || decide (48 ≤ c ∧ c ≤ 57) || decide (c = 45) || decide (c = 46)) = false by simp; omega]
        go_enter Try.func28, Try.ntmps28
        go_wp2_with fail
        go_ret
        exact ⟨rfl, rfl⟩
    · by_cases p3 : c = 45
      · subst p3
        go_enter Try.func28, Try.ntmps28
        go_wp2_with fail
        go_ret
        exact ⟨rfl, rfl⟩
      · by_cases p4 : c = 46
        · subst p4
          go_enter Try.func28, Try.ntmps28
          go_wp2_with fail
          go_ret
          exact ⟨rfl, rfl⟩
        · have g0 : ¬ (97 : Int) ≤ (c : Int) := by omega
          have g1 : ¬ (48 : Int) ≤ (c : Int) := by omega
          have g4 : ((c : Int) == 45) = false := by simp; omega
          have g5 : ((c : Int) == 46) = false := by simp; omega
          have g6 : (c == 45) = false := by simp; omega
          have g7 : (c == 46) = false := by simp; omega
          rw [show (decide (97 ≤ c ∧ c ≤ 122) || decide (48 ≤ c ∧ c ≤ 57) || decide (c = 45) || decide (c = 46)) = false by simp; omega]
          go_enter Try.func28, Try.ntmps28
          go_wp2_with fail
          go_ret
          exact ⟨rfl, rfl⟩
set_option maxHeartbeats 4000000 in
theorem pname_any (s : List UInt8) (hs : s.length ≤ 1000000) (w : World) : Calls Try.prog 12 #[.string ⟨s.toArray⟩] w fun e w' => e = .returned (.bool (nameB s)) ∧ w = w' := by
  have hsz : (ByteArray.mk s.toArray).size = s.length := by simp [ByteArray.size]
  obtain ⟨r, hr⟩ : ∃ r, nameB s = r := ⟨_, rfl⟩
  have HR := Lib.hid hr
  rw [hr]
  obtain ⟨n, hn⟩ : ∃ n, s.length = n := ⟨_, rfl⟩
  have HN := Lib.hid hn
  rw [hn] at hsz hs
  clear hr hn
  by_cases h1 : n = 0
  · subst h1
    have hf := name_len (s := s) (by rw [HN.out]; omega)
    rw [HR.out] at hf
    subst hf
    go_enter Try.func12, Try.ntmps12
    go_wp2_with fail
    go_ret
    exact ⟨rfl, rfl⟩
  · have h1i : ((n : Int) == 0) = false := by simp; omega
    have h1j : (n == 0) = false := by simp; omega
    by_cases h2 : 24 < n
    · have h2i : (n : Int) > 24 := by omega
      have h2j : 24 < (n : Int) := by omega
      have hf := name_len (s := s) (by rw [HN.out]; omega)
      rw [HR.out] at hf
      subst hf
      go_enter Try.func12, Try.ntmps12
      go_wp2_with fail
      go_ret
      exact ⟨rfl, rfl⟩
    · have h2i : ¬ (n : Int) > 24 := by omega
      have h2j : ¬ 24 < (n : Int) := by omega
      go_enter Try.func12, Try.ntmps12
      go_wp2_with fail
      clear h1i h1j h2i h2j
      go_loopw [14] (fun i wr => ∃ j : Nat, j ≤ n ∧ i = .int .i64 (j : Int) ∧ (∀ k x, k < j → s[k]? = some x → nmC x = true) ∧ wr = w)
        (fun i _ => n - (intOf i).toNat)
      case atStart => exact ⟨0, Nat.zero_le _, rfl, fun k x h => absurd h (by omega), rfl⟩
      case round =>
        obtain ⟨j, hj, rfl, hall, rfl⟩ := hrel
        by_cases hlt : j < n
        · have hji : (j : Int) < (n : Int) := by omega
          have hj0 : (0 : Int) ≤ (j : Int) := by omega
          obtain ⟨x, hx⟩ : ∃ x, s[j]? = some x := ⟨_, List.getElem?_eq_getElem (by rw [HN.out]; exact hlt)⟩
          have hxb : ∀ h : j < (ByteArray.mk s.toArray).size, (ByteArray.mk s.toArray)[j] = x := fun h => by
            have h9 := (List.getElem?_eq_some_iff.1 hx).2
            rw [← h9]
            rfl
          have HX := Lib.hid hx
          have HAL := Lib.hid hall
          have HLT := Lib.hid hlt
          have HM := Lib.hid (pmay_any x wr)
          unfold v8 at HM
          obtain ⟨q, hq⟩ : ∃ q, nmC x = q := ⟨_, rfl⟩
          rw [hq] at HM
          have HQ := Lib.hid hq
          clear hx hall hlt hj h1 h2 hq
          cases q
          · have hff := name_not HX.out HQ.out
            rw [HR.out] at hff
            subst hff
            go_wp2_with (go_at_call 28; refine HM.out.mono ?_; rintro e w' ⟨rfl, rfl⟩)
            go_ret
            exact ⟨rfl, rfl⟩
          · go_wp2_with (go_at_call 28; refine HM.out.mono ?_; rintro e w' ⟨rfl, rfl⟩)
            go_roundw
            case rel => exact ⟨j + 1, HLT.out, (by have := HLT.out; go_num), (fun k y hk hy => by
              by_cases e : k = j
              · subst e
                rw [HX.out] at hy
                cases hy
                exact HQ.out
              · exact HAL.out k y (by omega) hy), trivial⟩
            case measure =>
              have := HLT.out
              simp [intOf]
              omega
        · obtain rfl : n = j := by omega
          have hji : ¬ (n : Int) < (n : Int) := by omega
          have hyes := name_to (s := s) (by rw [HN.out]; omega) (by rw [HN.out]; omega) (fun k x hk hx => hall k x (by rw [HN.out] at hk; exact hk) hx)
          rw [HR.out] at hyes
          subst hyes
          clear hlt hj hall
          go_wp2_with fail
          go_ret
          exact ⟨rfl, rfl⟩
end Go.Proofs.Ytajmppaodhpmgaa
namespace Go.Proofs.Ytajmppaodhpmgaa
set_option maxRecDepth 100000
open Go.RowKit Go.Lib

theorem spl_ad4 {A : Ad} (h : A.b.length = 16) : spl (adL ⟨false, zer16⟩) ((A.b.take 4).map v8) 1 = adL (ad4 A.b) := by
  obtain ⟨six, b⟩ := A
  match b, h with
  | [b0, b1, b2, b3, b4, b5, b6, b7, b8, b9, b10, b11, b12, b13, b14, b15], _ => rfl
theorem zeroAd : #[Value.bool false, .int .u8 0, .int .u8 0, .int .u8 0, .int .u8 0, .int .u8 0, .int .u8 0, .int .u8 0, .int .u8 0, .int .u8 0, .int .u8 0, .int .u8 0, .int .u8 0, .int .u8 0, .int .u8 0, .int .u8 0, .int .u8 0] = (adL ⟨false, zer16⟩).toArray := by rfl
theorem copy4_any {w : World} {g0 g1 : Nat} {A : Ad} (h : A.b.length = 16) (hb0 : Blk w 32 g0 (adL A)) (hb1 : Blk w 32 g1 (adL ⟨false, zer16⟩)) (ty : TypeId) :
    ∃ w', (Builtin.copy_ #[63, 63] ty #[.slice (some ⟨g1, 1, none⟩) 4 16, .slice (some ⟨g0, 1, none⟩) 16 16]).run Try.prog w = .ok (.int .i64 4) w' ∧ (Blk w' 32 g1 (adL (ad4 A.b)) ∧ w.grownBy w' (some g1)) := by
  have h4 : ((A.b.take 4).map v8).length = 4 := by rw [List.length_map, List.length_take, h]; rfl
  have hsrc : ∀ j v, ((A.b.take 4).map v8)[j]? = some v → w.cell? ((⟨g0, 1, none⟩ : Addr).add j) = some v := fun j v hj => by
    rw [add_plain]
    refine Blk_10.cell hb0 ?_
    rw [Nat.add_comm 1 j]
    show (A.b.map v8)[j]? = some v
    have hjl := (List.getElem?_eq_some_iff.1 hj).1
    rw [List.map_take, List.getElem?_take] at hj
    rw [if_pos (by omega)] at hj
    exact hj
  have h9 := run_copy_row (P := Try.prog) w 63 63 ty 5 g1 1 4 16 ⟨g0, 1, none⟩ 16 16 (adL ⟨false, zer16⟩).toArray 32 ((A.b.take 4).map v8) Try.underlying63 (by kernel_rfl) hb1 (by rw [h4]; rfl) hsrc (by rw [h4]; decide) (fun v hv => by
    obtain ⟨x, _, rfl⟩ := List.mem_map.1 hv
    rfl)
  have e := spl_ad4 h
  unfold spl at e
  have e2 : (adL ⟨false, zer16⟩).toArray.toList = adL ⟨false, zer16⟩ := rfl
  rw [e2, e, h4] at h9
  exact ⟨_, h9, Blk_10.setRow_ hb1 _, gb_setRow1 w g1 _⟩
set_option maxHeartbeats 4000000 in
theorem pright4_any {A : Ad} (h : A.b.length = 16) (w : World) : Calls Try.prog 47 #[adC A] w fun e w' => e = .returned (.bool (A.six || shortB A)) ∧ Below w.heap.size w w' := by
  obtain ⟨Y, hY⟩ : ∃ Y, w.alloc (.cells (adL A).toArray 32) = Y := ⟨_, rfl⟩
  have hT : Blk Y 32 w.heap.size (adL A) := by rw [← hY]; exact Blk_10.new w _ _
  have hB : Below w.heap.size w Y := by rw [← hY]; exact (Below.refl w.heap.size w).alloc (Nat.le_refl _) _
  have hz : Y.heap.size = w.heap.size + 1 := by rw [← hY, World.size_alloc]
  have HT := Lib.hid hT
  have HB := Lib.hid hB
  have HZ := Lib.hid hz
  have HY := Lib.hid hY
  have HA := Lib.hid h
  obtain ⟨C, hC⟩ : ∃ C, (adL A).toArray = C := ⟨_, rfl⟩
  have HC := Lib.hid (show adC A = .agg C by rw [← hC]; rfl)
  have he := Lib.hid (fun W => run_eql_ad W h (ad4_len (xs := A.b) (by omega)))
  rw [short_ad h] at he
  have HE := he
  have HEX := Lib.hid (sizeAdL h)
  clear he hT hB hz
  unfold adC
  rw [hC]
  rw [hC] at hY HY
  have HNEW : Hid (Blk ((w.alloc (.cells C 32)).alloc (.cells (adL ⟨false, zer16⟩).toArray 32)) 32 (w.heap.size + 1) (adL ⟨false, zer16⟩)) := Lib.hid (by
    have h9 := Blk_10.new Y 32 (adL ⟨false, zer16⟩)
    rw [HZ.out, ← hY] at h9
    exact h9)
  have HT1 : Hid (Blk ((w.alloc (.cells C 32)).alloc (.cells (adL ⟨false, zer16⟩).toArray 32)) 32 w.heap.size (adL A)) := Lib.hid (by
    rw [HY.out]
    exact Blk_10.alloc HT.out _)
  have HB1 : Hid (Below w.heap.size w ((w.alloc (.cells C 32)).alloc (.cells (adL ⟨false, zer16⟩).toArray 32))) := Lib.hid (by
    rw [HY.out]
    exact HB.out.alloc (by rw [HZ.out]; omega) _)
  clear hY hC h HT HB HY HZ
  obtain ⟨six, hsix⟩ : ∃ x, A.six = x := ⟨_, rfl⟩
  obtain ⟨S, hS⟩ : ∃ x, shortB A = x := ⟨_, rfl⟩
  rw [hS] at HE
  rw [hsix, hS]
  have HSIX := Lib.hid hsix
  clear hsix hS
  go_enter Try.func47, Try.ntmps47
  go_wp2_with ((with_reducible show wpList _ _ _ (⟨none, .store _ _ _, _, _, _, _⟩ :: _) _ _); refine wpList_storeBA rfl _ _ _ rfl (w.heap.size + 1) (by rfl) (adL ⟨false, zer16⟩) (by rfl) (adL ⟨false, zer16⟩) HNEW.out rfl (sizeAdL (a := ⟨false, zer16⟩) rfl) (adL_one _) ?_; intro W2 hb2 hg2; have HN2 := Lib.hid hb2; have HT2 := Lib.hid (Blk.gb HT1.out hg2 (by simp)); have HB2 := Lib.hid (below_gb HB1.out hg2 (Nat.le_succ _) HB1.out.size); clear hb2 hg2 HNEW HT1 HB1)
  have HC4 := Lib.hid (fun ty => copy4_any (w := W2.drew) HA.out HT2.out HN2.out ty)
  have HB3 : Hid (Below w.heap.size w W2.drew) := Lib.hid HB2.out.drew
  go_region_law (refine step_copyL rfl _ _ _ _ rfl _ _ (by simp [Act.eval, Act.put]) (by simp [Act.eval, Act.put]) _ _ (HC4.out _) ?_; intro W3 h3; have HN3 := Lib.hid h3.1; have HT3 := Lib.hid (Blk.gb (Blk_10.drew HT2.out) h3.2 (by simp)); have HB4 := Lib.hid (below_gb HB3.out h3.2 (Nat.le_succ _) HB3.out.size); clear h3)
  clear HC4 HT2 HN2 HB2 HB3
  have q0 : W3.cell? ⟨w.heap.size, 0, none⟩ = some (.bool six) := Blk_10.cell HT3.out (by rw [← HSIX.out]; rfl)
  cases six
  · have HRA : Hid (W3.rangeAt w.heap.size 0 (adL A)) := Lib.hid (Blk_10.range HT3.out)
    have HRB : Hid (W3.rangeAt (w.heap.size + 1) 0 (adL (ad4 A.b))) := Lib.hid (Blk_10.range HN3.out)
    obtain ⟨D, hD⟩ : ∃ D, (adL (ad4 A.b)).toArray = D := ⟨_, rfl⟩
    have HD := Lib.hid (show adC (ad4 A.b) = .agg D by rw [← hD]; rfl)
    have HEE := Lib.hid (fun W => by have h9 := HE.out W; rw [HC.out, HD.out] at h9; exact h9)
    clear hD HE
    go_wp2_with (first | ((with_reducible show wpList _ _ _ (⟨some 13, _, _, _, _, _⟩ :: _) _ _); refine wpList_loadAdU (op := ⟨some 13, _, _, _, _, _⟩) _ rfl (by rfl) w.heap.size 0 (by rfl) A HA.out HRA.out _ HC.out ?_) | ((with_reducible show wpList _ _ _ (⟨some 14, _, _, _, _, _⟩ :: _) _ _); refine wpList_loadAdU (op := ⟨some 14, _, _, _, _, _⟩) _ rfl (by rfl) (w.heap.size + 1) 0 (by rfl) (ad4 A.b) (ad4_len (by have := HA.out; omega)) HRB.out _ HD.out ?_) | ((with_reducible show wpList _ _ _ (⟨some 15, _, _, _, _, _⟩ :: _) _ _); refine wpList_eqlU (op := ⟨some 15, _, _, _, _, _⟩) _ _ _ _ rfl (by rfl) _ _ (by rfl) (by rfl) guardA S HEE.out ?_))
    go_ret
    exact ⟨rfl, HB4.out⟩
  · go_wp2_with fail
    go_ret
    exact ⟨rfl, HB4.out⟩
end Go.Proofs.Ytajmppaodhpmgaa
namespace Go.Proofs.Ytajmppaodhpmgaa
set_option maxRecDepth 100000
open Go.RowKit Go.Lib

theorem plain_can {u : Nat} (hu : u < T64) (hw : wtW u = true) : decide (canW u = canW (plainW u)) = !ngW u := by
  unfold plainW
  by_cases h : rgW u = 0
  · rw [if_pos h]
    have hn : nanW u = false := by
      unfold nanW
      rw [h]
      rfl
    have e1 : canW u = u := by
      unfold canW
      rw [if_neg (by rw [hn]; decide)]
    have e2 : canW 0 = 0 := by decide +kernel
    rw [e1, e2]
    have h1 := word_of hu
    rw [h] at h1
    cases hs : ngW u
    · rw [hs] at h1
      rw [h1]
      rfl
    · rw [hs] at h1
      rw [h1]
      rfl
  · rw [if_neg h]
    unfold wtW at hw
    rw [decide_eq_false h] at hw
    simp at hw
    rw [hw.1]
    exact decide_eq_true rfl
theorem quietS {P : Program} {f : FuncId} {args : Array Value} {w : World} {n : Nat} {v : Value} (h : Calls P f args (w.drewN n) fun e w' => e = .returned v ∧ w.drewN n = w') :
    Calls P f args (w.drewN n) fun e w' => e = .returned v ∧ ∃ m, w' = w.drewN m :=
  h.mono fun _ _ g => ⟨g.1, n, g.2.symm⟩
theorem belDN {B : Nat} {a w : World} (h : Below B a w) (n : Nat) : Below B a (w.drewN n) := ⟨h.os, h.tape, h.output, h.size, h.block⟩
set_option maxHeartbeats 4000000 in
theorem prightB_any (b : Bk) (hnm : b.nm.length ≤ 1000000) (w : World) : Calls Try.prog 29 #[bkC b] w fun e w' => e = .returned (.bool (rightBk b)) ∧ Below w.heap.size w w' := by
  obtain ⟨Y, hY⟩ : ∃ Y, w.alloc (.cells (bkL b).toArray 36) = Y := ⟨_, rfl⟩
  have hT : Blk Y 36 w.heap.size (bkL b) := by rw [← hY]; exact Blk_10.new w _ _
  have hB : Below w.heap.size w Y := by rw [← hY]; exact (Below.refl w.heap.size w).alloc (Nat.le_refl _) _
  have hlt := Blk_10.lt hT
  have hN := fun W => pname_any b.nm hnm W
  have hS := fun W => pright4_any b.hb W
  have HWT := Lib.hid (fun (W : World) => wright_any b.hw W)
  have HP := Lib.hid (fun W => wplain_any b.hw W)
  have HSM := Lib.hid (fun W => wsame_eq b.hw (plain_lt b.hw) W)
  have q0 : Y.cell? ⟨w.heap.size, 0, none⟩ = some (.string ⟨b.nm.toArray⟩) := Blk_10.cell hT (bk_nm b)
  have q2 := Blk_10.cell hT (bk_port b)
  have q4 := Blk_10.cell hT (bk_wt b)
  have hR := bk_range hT
  have HA := Lib.hid b.hb
  obtain ⟨C, hC⟩ : ∃ C, adC b.ad = C := ⟨_, rfl⟩
  rw [hC] at hS
  have HC := Lib.hid hC
  have hpl : wtW b.wt = true → decide (canW b.wt = canW (plainW b.wt)) = !ngW b.wt := plain_can b.hw
  have hv : rightBk b = (nameB b.nm && (b.ad.six || shortB b.ad) && decide (1 ≤ b.port ∧ b.port ≤ 65535) && wtW b.wt && decide (canW b.wt = canW (plainW b.wt))) := by
    unfold rightBk fairB
    cases h9 : wtW b.wt
    · simp
    · rw [hpl h9]
  obtain ⟨r, hr⟩ : ∃ r, rightBk b = r := ⟨_, rfl⟩
  rw [hr] at hv
  rw [hr]
  unfold bkC
  obtain ⟨L, hL⟩ : ∃ L, (bkL b).toArray = L := ⟨_, rfl⟩
  rw [hL]
  rw [hL] at hY
  obtain ⟨nb, e1⟩ : ∃ x, nameB b.nm = x := ⟨_, rfl⟩
  obtain ⟨sb, e2⟩ : ∃ x, (b.ad.six || shortB b.ad) = x := ⟨_, rfl⟩
  obtain ⟨tb, e3⟩ : ∃ x, wtW b.wt = x := ⟨_, rfl⟩
  obtain ⟨pb, e4⟩ : ∃ x, decide (canW b.wt = canW (plainW b.wt)) = x := ⟨_, rfl⟩
  obtain ⟨po, e5⟩ : ∃ x, b.port = x := ⟨_, rfl⟩
  rw [e1, e2, e3, e4, e5] at hv
  rw [e1] at hN
  rw [e2] at hS
  rw [e3] at HWT
  rw [e4] at HSM
  rw [e5] at q2
  rw [← hY] at q0 q2 q4 hR hlt hB
  have HN := Lib.hid hN
  have HS := Lib.hid hS
  have HR := Lib.hid hR
  have HV := Lib.hid hv
  have HB := Lib.hid hB
  have HLT := Lib.hid hlt
  generalize plainW b.wt = pw at HP HSM
  clear hpl hN hS hR hv hB hlt hY hT hC hr hL e1 e2 e3 e4 e5 hnm
  go_enter Try.func29, Try.ntmps29
  go_wp2_with fail
  go_quiet (first | (go_at_call 46; exact quietS (HP.out _)) | (go_at_call 45; exact quietS (HSM.out _)))
  have q0x : ((w.alloc (.cells L 36)).drewN nq).cell? ⟨w.heap.size, 0, none⟩ = some (.string ⟨b.nm.toArray⟩) := q0
  have q2x : ((w.alloc (.cells L 36)).drewN nq).cell? ⟨w.heap.size, 18, none⟩ = some (.int .i64 po) := q2
  have q4x : ((w.alloc (.cells L 36)).drewN nq).cell? ⟨w.heap.size, 25, none⟩ = some (.float .f64 b.wt) := q4
  have HRx : Hid (((w.alloc (.cells L 36)).drewN nq).rangeAt w.heap.size 1 (adL b.ad)) := Lib.hid HR.out
  have HBx : Hid (Below w.heap.size w ((w.alloc (.cells L 36)).drewN nq)) := Lib.hid (belDN HB.out nq)
  have HLTx : Hid (w.heap.size < ((w.alloc (.cells L 36)).drewN nq).heap.size) := Lib.hid HLT.out
  clear q0 q2 q4 HR HB HLT HP HSM
  generalize (w.alloc (.cells L 36)).drewN nq = X at q0x q2x q4x HRx HBx HLTx ⊢
  cases nb
  · clear q2x q4x
    go_wp2_with (go_at_call 12; refine (HN.out _).mono ?_; rintro e w2 ⟨rfl, rfl⟩)
    go_ret
    exact ⟨by rw [HV.out]; first | (simp [*]; done) | (simp; intros; omega), HBx.out⟩
  · cases sb
    · go_wp2_with (first | (go_at_call 12; refine (HN.out _).mono ?_; rintro e w2 ⟨rfl, rfl⟩) | ((with_reducible show wpList _ _ _ (⟨some 15, _, _, _, _, _⟩ :: _) _ _); refine wpList_loadAdU (op := ⟨some 15, _, _, _, _, _⟩) _ rfl (by rfl) w.heap.size 1 (by rfl) b.ad HA.out HRx.out C HC.out ?_) | (go_at_call 47; refine (HS.out _).mono ?_; rintro e w2 ⟨rfl, h2⟩; have q2b := (h2.cell (p := ⟨w.heap.size, 18, none⟩) HLTx.out).trans q2x; have q4b := (h2.cell (p := ⟨w.heap.size, 25, none⟩) HLTx.out).trans q4x; have HB2 := Lib.hid (HBx.out.trans (h2.mono HBx.out.size)); clear h2 q2x q4x))
      go_ret
      exact ⟨by rw [HV.out]; first | (simp [*]; done) | (simp; intros; omega), HB2.out⟩
    · by_cases h1 : 0 < po
      · by_cases h2 : po ≤ 65535
        · cases tb
          · go_wp2_with (first | (go_at_call 12; refine (HN.out _).mono ?_; rintro e w2 ⟨rfl, rfl⟩) | ((with_reducible show wpList _ _ _ (⟨some 15, _, _, _, _, _⟩ :: _) _ _); refine wpList_loadAdU (op := ⟨some 15, _, _, _, _, _⟩) _ rfl (by rfl) w.heap.size 1 (by rfl) b.ad HA.out HRx.out C HC.out ?_) | (go_at_call 47; refine (HS.out _).mono ?_; rintro e w2 ⟨rfl, h2⟩; have q2b := (h2.cell (p := ⟨w.heap.size, 18, none⟩) HLTx.out).trans q2x; have q4b := (h2.cell (p := ⟨w.heap.size, 25, none⟩) HLTx.out).trans q4x; have HB2 := Lib.hid (HBx.out.trans (h2.mono HBx.out.size)); clear h2 q2x q4x) | (go_at_call 48; refine (HWT.out _).mono ?_; rintro e w3 ⟨rfl, rfl⟩))
            go_ret
            exact ⟨by rw [HV.out]; first | (simp [*]; done) | (simp; intros; omega), HB2.out⟩
          · go_wp2_with (first | (go_at_call 12; refine (HN.out _).mono ?_; rintro e w2 ⟨rfl, rfl⟩) | ((with_reducible show wpList _ _ _ (⟨some 15, _, _, _, _, _⟩ :: _) _ _); refine wpList_loadAdU (op := ⟨some 15, _, _, _, _, _⟩) _ rfl (by rfl) w.heap.size 1 (by rfl) b.ad HA.out HRx.out C HC.out ?_) | (go_at_call 47; refine (HS.out _).mono ?_; rintro e w2 ⟨rfl, h2⟩; have q2b := (h2.cell (p := ⟨w.heap.size, 18, none⟩) HLTx.out).trans q2x; have q4b := (h2.cell (p := ⟨w.heap.size, 25, none⟩) HLTx.out).trans q4x; have HB2 := Lib.hid (HBx.out.trans (h2.mono HBx.out.size)); clear h2 q2x q4x) | (go_at_call 48; refine (HWT.out _).mono ?_; rintro e w3 ⟨rfl, rfl⟩))
            go_ret
            exact ⟨by rw [HV.out]; first | (simp [*]; done) | (simp; intros; omega), HB2.out⟩
        · go_wp2_with (first | (go_at_call 12; refine (HN.out _).mono ?_; rintro e w2 ⟨rfl, rfl⟩) | ((with_reducible show wpList _ _ _ (⟨some 15, _, _, _, _, _⟩ :: _) _ _); refine wpList_loadAdU (op := ⟨some 15, _, _, _, _, _⟩) _ rfl (by rfl) w.heap.size 1 (by rfl) b.ad HA.out HRx.out C HC.out ?_) | (go_at_call 47; refine (HS.out _).mono ?_; rintro e w2 ⟨rfl, h2⟩; have q2b := (h2.cell (p := ⟨w.heap.size, 18, none⟩) HLTx.out).trans q2x; have q4b := (h2.cell (p := ⟨w.heap.size, 25, none⟩) HLTx.out).trans q4x; have HB2 := Lib.hid (HBx.out.trans (h2.mono HBx.out.size)); clear h2 q2x q4x) | (go_at_call 48; refine (HWT.out _).mono ?_; rintro e w3 ⟨rfl, rfl⟩))
          go_ret
          exact ⟨by rw [HV.out]; first | (simp [*]; done) | (simp; intros; omega), HB2.out⟩
      · go_wp2_with (first | (go_at_call 12; refine (HN.out _).mono ?_; rintro e w2 ⟨rfl, rfl⟩) | ((with_reducible show wpList _ _ _ (⟨some 15, _, _, _, _, _⟩ :: _) _ _); refine wpList_loadAdU (op := ⟨some 15, _, _, _, _, _⟩) _ rfl (by rfl) w.heap.size 1 (by rfl) b.ad HA.out HRx.out C HC.out ?_) | (go_at_call 47; refine (HS.out _).mono ?_; rintro e w2 ⟨rfl, h2⟩; have q2b := (h2.cell (p := ⟨w.heap.size, 18, none⟩) HLTx.out).trans q2x; have q4b := (h2.cell (p := ⟨w.heap.size, 25, none⟩) HLTx.out).trans q4x; have HB2 := Lib.hid (HBx.out.trans (h2.mono HBx.out.size)); clear h2 q2x q4x) | (go_at_call 48; refine (HWT.out _).mono ?_; rintro e w3 ⟨rfl, rfl⟩))
        go_ret
        exact ⟨by rw [HV.out]; first | (simp [*]; done) | (simp; intros; omega), HB2.out⟩
end Go.Proofs.Ytajmppaodhpmgaa
