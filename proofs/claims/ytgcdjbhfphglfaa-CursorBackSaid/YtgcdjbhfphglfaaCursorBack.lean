/-
  PROVED HERE: 'CursorBackSaid': whatever plan, l, at and more are, the Go function CursorBack of package wayleavelaw04 returns true, and its arguments read behind the call as they read before. No condition.
-/
import Derived.Test.YtgcdjbhfphglfaaCOpen
import Derived.Test.YtgcdjbhfphglfaaCMath2
import Derived.Test.YtgcdjbhfphglfaaCSame
namespace Go.Proofs.Ytgcdjbhfphglfaa
open Go.RowKit Go.Lib Go.ChangeShapes Go.WideShapes Go.ChangeAt

theorem run_to8 (A : Option Addr) (len cap k : Nat) (h : k ≤ cap) (W : World) :
    (Instr.slice 22 (.slice A len cap) none (some (.int .i64 (k : Int))) none).run Try.prog W = .ok (.slice A k cap) W := by
  obtain ⟨i0, hi, hz0, hz1, hz2⟩ := info_parts info8
  have ha : Option.map (fun x => x.add 0) A = A := by
    cases A with
    | none => rfl
    | some a => simp [Addr.add]
  simp [Instr.slice, run_underlying Try.underlying22, Instr.sliceBounds, run_sliceBound, sizeOf, typeInfo, hi, hz1, show (k : Int) ≤ (cap : Int) by omega, ha]

set_option maxRecDepth 100000 in
set_option maxHeartbeats 4000000 in
theorem cursorBack_walk (A : Option Addr) (len cap : Nat) (xs : List It) (_hcap : len ≤ cap) (_hcm : cap ≤ maxLen) (hxs : ∀ x ∈ xs, -9223372036854775808 ≤ x.n ∧ x.n ≤ 9223372036854775807)
    (A' : Option Addr) (len' cap' : Nat) (ps : List Pc) (hcap' : len' ≤ cap') (hcm' : cap' ≤ maxLen) (hps : ∀ p ∈ ps, p.n < 18446744073709551616) (at_ : Nat) (_hat : at_ < 65536) (m0 : Nat) (hm0 : m0 < 256) (w : World)
    (hI : PlanAt w w.heap.size A len xs) (hJ : PcsAt w w.heap.size A' len' ps) :
    Calls Try.prog 5 #[.slice A len cap, .slice A' len' cap', .int .u16 (at_ : Int), .int .u8 (m0 : Int)] w fun e W' => e = .returned (.bool true) ∧ Below w.heap.size w W' := by
  by_cases h1 : 40 < len
  · have h1' : (40 : Int) < (len : Int) := by omega
    go_enter Try.func5, Try.ntmps5
    go_wp2_with fail
    refine (awake_any _).mono ?_
    rintro e w1 ⟨rfl, hb1⟩
    go_wp2_with fail
    refine (awake_any _).mono ?_
    rintro e w2 ⟨rfl, hb2⟩
    go_wp2_with fail
    go_ret
    exact ⟨rfl, hb1.trans (hb2.mono hb1.size)⟩
  · have h1' : decide ((40 : Int) < (len : Int)) = false := decide_eq_false (by omega)
    cases hfew : fewB ps with
    | false =>
      have HF := Lib.hid (fun W hJ => hfew ▸ few_any (w := W) (B := w.heap.size) (A := A') (len := len') cap' (by omega) hJ)
      clear hfew
      go_enter Try.func5, Try.ntmps5
      go_wp2_with fail
      refine (awake_any _).mono ?_
      rintro e w1 ⟨rfl, hb1⟩
      go_wp2_with fail
      refine (HF.out _ (hJ.below hb1)).mono ?_
      rintro e w2 ⟨rfl, rfl⟩
      go_wp2_with fail
      refine (awake_any _).mono ?_
      rintro e w2 ⟨rfl, hb2⟩
      go_wp2_with fail
      go_ret
      exact ⟨rfl, hb1.trans (hb2.mono hb1.size)⟩
    | true =>
      have HF := Lib.hid (fun W hJ => hfew ▸ few_any (w := W) (B := w.heap.size) (A := A') (len := len') cap' (by omega) hJ)
      obtain ⟨q1, q2⟩ := fewB_yes hfew
      have hl' := hJ.size
      have hlx := hI.size
      subst hl'
      have hpp : ∀ p ∈ ps, p.n < 18446744073709551616 ∧ p.bs.length ≤ 1000 := fun p hp => ⟨hps p hp, by have := q1 p hp; omega⟩
      have HL := Lib.hid (fun W hI hJ => lays_any A len cap A' ps.length cap' xs ps (by omega) (by omega) hpp W hI hJ)
      cases hlay : layS xs ps with
      | none =>
        rw [hlay] at HL
        clear hlay hpp hfew q1 q2 hlx hps hxs
        go_enter Try.func5, Try.ntmps5
        go_wp2_with fail
        refine (awake_any _).mono ?_
        rintro e w1 ⟨rfl, hb1⟩
        go_wp2_with fail
        refine (HF.out _ (hJ.below hb1)).mono ?_
        rintro e w2 ⟨rfl, rfl⟩
        go_wp2_with fail
        refine (HL.out _ ((hI.below hb1).more hb1.size) ((hJ.below hb1).more hb1.size)).mono ?_
        rintro e w2 ⟨hb2, rfl⟩
        go_wp2_with fail
        go_ret
        exact ⟨rfl, hb1.trans (hb2.mono hb1.size)⟩
      | some ys =>
        rw [hlay] at HL
        have hyl := layS_le xs ps ys hlay hpp
        obtain ⟨mo, hmo⟩ : ∃ mo : UInt8, m0 = mo.toNat := ⟨UInt8.ofNat m0, by rw [UInt8.toNat_ofNat']; omega⟩
        subst hmo
        have hys : ys.length ≤ 40400 := by omega
        have f1 := scan_fwd xs ps ys ⟨ys, 0, 0, 0⟩ [] [] hlay hpp rfl (by simp)
        have f2 := scan_fwd xs ps ys ⟨ys ++ [mo], 0, 0, 0⟩ [] [mo] hlay hpp rfl (by simp)
        rw [if_neg (by simp)] at f1
        rw [if_pos (by simp)] at f2
        rw [show (⟨ys ++ [mo], 0, 0, 0⟩ : RS).at_ + ys.length = ys.length from Nat.zero_add _] at f2
        rw [List.nil_append] at f1
        have hcut := fun j (hj : j < ys.length) => scan_cut xs ps ys ⟨ys.take j, 0, 0, 0⟩ [] j hlay hpp rfl hj rfl
        have HS1 := Lib.hid (fun W B1 m c hI hJ => f1 ▸ scan_any B1 m c ys A len cap xs (by have := Rd.len hI; omega) (by omega) hxs W hI hJ)
        have HS2 := Lib.hid (fun W B1 m c hI hJ => f2 ▸ scan_any B1 m c (ys ++ [mo]) A len cap xs (by have := Rd.len hI; rw [List.length_append] at this; simp at this; omega) (by omega) hxs W hI hJ)
        have HS3 := Lib.hid (fun j W B1 m c hI hJ => scan_any B1 m c (ys.take j) A len cap xs (by have := Rd.len hI; rw [List.length_take] at this; omega) (by omega) hxs W hI hJ)
        have HC := Lib.hid hcut
        have hlen1 : ps.length ≤ 1000 := by omega
        clear hlay hpp hfew q1 q2 hlx hps hxs f1 f2 hcut hyl h1
        by_cases hy : ys.length = 0
        · have HY := Lib.hid hy
          clear hy
          go_enter Try.func5, Try.ntmps5
          go_wp2_with fail
          refine (awake_any _).mono ?_
          rintro e w1 ⟨rfl, hb1⟩
          go_wp2_with fail
          refine (HF.out _ (hJ.below hb1)).mono ?_
          rintro e w2 ⟨rfl, rfl⟩
          go_wp2_with fail
          refine (HL.out _ ((hI.below hb1).more hb1.size) ((hJ.below hb1).more hb1.size)).mono ?_
          rintro e w2 ⟨hb2, v, rfl, hov⟩
          obtain ⟨Ab, mb, cb, rfl, hmb, hmc, hcm2, hrb⟩ := hov.sl
          have HMB := Lib.hid hmb
          clear hmb
          have hmbl : mb ≤ 40400 := by rw [HMB.out]; exact hys
          have z1 := hb1.size
          have z2 := hb2.size
          have B2 := hb1.trans (hb2.mono z1)
          have hI2 := (hI.below B2).more B2.size
          go_wp2_with fail
          refine (HS1.out _ _ _ cb hrb hI2).mono ?_
          rintro e w3 ⟨hb3, vm, rfl, hom⟩
          obtain ⟨Am, mm, cm, rfl, hmm, _, _, hpm⟩ := hom.sl
          subst hmm
          rw [show spotOf 0 0 = .agg #[.int .i64 0, .int .i64 0] from rfl]
          have z3 := hb3.size
          have B3 := B2.trans (hb3.mono (by omega))
          have hrb3 := hrb.below hb3
          have T3 := Bk.new w3 28 #[.int .i64 0, .int .i64 0]
          have how := empty8 (base := w3.heap.size + 1) (w3.alloc (.cells #[.int .i64 0, .int .i64 0] 28)) (by simp)
          have C3 : Below (w3.heap.size + 1) (w3.alloc (.cells #[.int .i64 0, .int .i64 0] 28)) ((w3.alloc (.cells #[.int .i64 0, .int .i64 0] 28)).alloc (.cells #[] 5)) := (Below.refl _ _).alloc (by simp) _
          have D3 := (B3.alloc (by omega) (.cells #[.int .i64 0, .int .i64 0] 28))
          have E3 : Below w3.heap.size w3 (w3.alloc (.cells #[.int .i64 0, .int .i64 0] 28)) := (Below.refl _ _).alloc (Nat.le_refl _) _
          simp only [World.size_alloc] at how
          go_wp2_with (first
            | (at_builtin; refine wpList_append8 (o := ⟨some 51, _, _, _, _, _⟩) rfl _ _ rfl (w3.heap.size + 1) _ [] (by rfl) how _ _ _ _ ys (by rfl) ((hrb3.below (E3.mono z3)).alloc (by simp <;> omega) _) (by simp; omega) (by simp <;> omega) ?_; intro v4 w4 hown4 hgrow4 hob4; have C4 := C3.grown hgrow4 (by simp <;> omega) how.lt; have z4 : w3.heap.size + 1 + 1 ≤ w4.heap.size := (by have := hgrow4.size; simpa using this))
            | (at_builtin; refine wpList_append8 (o := ⟨some 54, _, _, _, _, _⟩) rfl _ _ rfl (w3.heap.size + 1) _ ys (by rfl) (hown4.alloc _) _ _ _ _ [mo] (by rfl) (Rd.one w4 mo) (by omega) (by simp; omega) ?_; intro v5 w5 hown5 hgrow5 hob5; have C5 := (C4.alloc (by omega) (.cells #[.int .u8 (mo.toNat : Int)] 5)).grown hgrow5 (by simp; omega) hown4.lt; have z5 : w4.heap.size + 1 ≤ w5.heap.size := (by have := hgrow5.size; simpa using this); obtain ⟨A5, m5, c5, rfl, hm5, _, _, hr5⟩ := hown5.sl; have HM5 := Lib.hid hm5; clear hm5))
          have B5 := D3.trans (C5.mono (by omega))
          have hI5 := (hI.below B5).more B5.size
          refine (HS2.out _ _ _ c5 hr5 hI5).mono ?_
          rintro e w6 ⟨hb6, rfl⟩
          rw [show spotOf ys.length 3 = .agg #[.int .i64 (mb : Int), .int .i64 3] from by rw [HMB.out]; rfl]
          have z6 := hb6.size
          have C6 := (C5.trans (hb6.mono (by omega))).alloc (by omega) (.cells #[.int .i64 (mb : Int), .int .i64 3] 28)
          have T6 : Bk (w6.alloc (.cells #[.int .i64 (mb : Int), .int .i64 3] 28)) w3.heap.size 28 #[.int .i64 0, .int .i64 0] := (C6.block _ (by omega)).trans T3
          have U6 := Bk.new w6 28 #[.int .i64 (mb : Int), .int .i64 3]
          have B6 := D3.trans (C6.mono (by omega))
          have P6 := hpm.below (E3.trans (C6.mono (by omega)))
          have J6 := hJ.below B6
          have hrb6 := hrb3.below ((E3.trans (C6.mono (by omega))).mono z3)
          have t0 := T6.c 0 _ rfl
          have t1 := T6.c 1 _ rfl
          have u0 := U6.c 0 _ rfl
          have u1 := U6.c 1 _ rfl
          go_wp2_with fail
          refine (rsame_any cap' cm (by omega) J6 P6).mono ?_
          rintro e w7 ⟨rfl, n7, rfl⟩
          have y0 : mb = 0 := by rw [HMB.out]; exact HY.out
          subst y0
          go_wp2_with fail
          go_ret
          exact ⟨rfl, below_drewN B6 n7⟩
        · have HY := Lib.hid hy
          obtain ⟨k, hk⟩ : ∃ k, at_ % ys.length = k := ⟨_, rfl⟩
          have hkl : k < ys.length := by rw [← hk]; exact Nat.mod_lt _ (by omega)
          obtain ⟨a, hca, hak⟩ := HC.out k hkl
          rw [show (⟨ys.take k, 0, 0, 0⟩ : RS).at_ + k = k from Nat.zero_add k] at hak
          have HS4 := Lib.hid (fun W B1 m c hI hJ => hca ▸ HS3.out k W B1 m c hI hJ)
          have hakI : (a : Int) ≤ (k : Int) := by omega
          have HK := Lib.hid hk
          have ha0 : (0 : Int) ≤ (at_ : Int) := by omega
          clear hy hk hca HS3 HC
          go_enter Try.func5, Try.ntmps5
          go_wp2_with fail
          refine (awake_any _).mono ?_
          rintro e w1 ⟨rfl, hb1⟩
          go_wp2_with fail
          refine (HF.out _ (hJ.below hb1)).mono ?_
          rintro e w2 ⟨rfl, rfl⟩
          go_wp2_with fail
          refine (HL.out _ ((hI.below hb1).more hb1.size) ((hJ.below hb1).more hb1.size)).mono ?_
          rintro e w2 ⟨hb2, v, rfl, hov⟩
          obtain ⟨Ab, mb, cb, rfl, hmb, hmc, hcm2, hrb⟩ := hov.sl
          have HMB := Lib.hid hmb
          clear hmb
          have hmbl : mb ≤ 40400 := by rw [HMB.out]; exact hys
          have z1 := hb1.size
          have z2 := hb2.size
          have B2 := hb1.trans (hb2.mono z1)
          have hI2 := (hI.below B2).more B2.size
          go_wp2_with fail
          refine (HS1.out _ _ _ cb hrb hI2).mono ?_
          rintro e w3 ⟨hb3, vm, rfl, hom⟩
          obtain ⟨Am, mm, cm, rfl, hmm, _, _, hpm⟩ := hom.sl
          subst hmm
          rw [show spotOf 0 0 = .agg #[.int .i64 0, .int .i64 0] from rfl]
          have z3 := hb3.size
          have B3 := B2.trans (hb3.mono (by omega))
          have hrb3 := hrb.below hb3
          have T3 := Bk.new w3 28 #[.int .i64 0, .int .i64 0]
          have how := empty8 (base := w3.heap.size + 1) (w3.alloc (.cells #[.int .i64 0, .int .i64 0] 28)) (by simp)
          have C3 : Below (w3.heap.size + 1) (w3.alloc (.cells #[.int .i64 0, .int .i64 0] 28)) ((w3.alloc (.cells #[.int .i64 0, .int .i64 0] 28)).alloc (.cells #[] 5)) := (Below.refl _ _).alloc (by simp) _
          have D3 := (B3.alloc (by omega) (.cells #[.int .i64 0, .int .i64 0] 28))
          have E3 : Below w3.heap.size w3 (w3.alloc (.cells #[.int .i64 0, .int .i64 0] 28)) := (Below.refl _ _).alloc (Nat.le_refl _) _
          simp only [World.size_alloc] at how
          go_wp2_with (first
            | (at_builtin; refine wpList_append8 (o := ⟨some 51, _, _, _, _, _⟩) rfl _ _ rfl (w3.heap.size + 1) _ [] (by rfl) how _ _ _ _ ys (by rfl) ((hrb3.below (E3.mono z3)).alloc (by simp <;> omega) _) (by simp; omega) (by simp <;> omega) ?_; intro v4 w4 hown4 hgrow4 hob4; have C4 := C3.grown hgrow4 (by simp <;> omega) how.lt; have z4 : w3.heap.size + 1 + 1 ≤ w4.heap.size := (by have := hgrow4.size; simpa using this))
            | (at_builtin; refine wpList_append8 (o := ⟨some 54, _, _, _, _, _⟩) rfl _ _ rfl (w3.heap.size + 1) _ ys (by rfl) (hown4.alloc _) _ _ _ _ [mo] (by rfl) (Rd.one w4 mo) (by omega) (by simp; omega) ?_; intro v5 w5 hown5 hgrow5 hob5; have C5 := (C4.alloc (by omega) (.cells #[.int .u8 (mo.toNat : Int)] 5)).grown hgrow5 (by simp; omega) hown4.lt; have z5 : w4.heap.size + 1 ≤ w5.heap.size := (by have := hgrow5.size; simpa using this); obtain ⟨A5, m5, c5, rfl, hm5, _, _, hr5⟩ := hown5.sl; have HM5 := Lib.hid hm5; clear hm5))
          have B5 := D3.trans (C5.mono (by omega))
          have hI5 := (hI.below B5).more B5.size
          refine (HS2.out _ _ _ c5 hr5 hI5).mono ?_
          rintro e w6 ⟨hb6, rfl⟩
          rw [show spotOf ys.length 3 = .agg #[.int .i64 (mb : Int), .int .i64 3] from by rw [HMB.out]; rfl]
          have z6 := hb6.size
          have C6 := (C5.trans (hb6.mono (by omega))).alloc (by omega) (.cells #[.int .i64 (mb : Int), .int .i64 3] 28)
          have T6 : Bk (w6.alloc (.cells #[.int .i64 (mb : Int), .int .i64 3] 28)) w3.heap.size 28 #[.int .i64 0, .int .i64 0] := (C6.block _ (by omega)).trans T3
          have U6 := Bk.new w6 28 #[.int .i64 (mb : Int), .int .i64 3]
          have B6 := D3.trans (C6.mono (by omega))
          have P6 := hpm.below (E3.trans (C6.mono (by omega)))
          have J6 := hJ.below B6
          have hrb6 := hrb3.below ((E3.trans (C6.mono (by omega))).mono z3)
          have t0 := T6.c 0 _ rfl
          have t1 := T6.c 1 _ rfl
          have u0 := U6.c 0 _ rfl
          have u1 := U6.c 1 _ rfl
          go_wp2_with fail
          refine (rsame_any cap' cm (by omega) J6 P6).mono ?_
          rintro e w7 ⟨rfl, n7, rfl⟩
          have hmk : k < mb := by rw [HMB.out]; exact hkl
          have y1 : ((mb : Int) == 0) = false := beq_eq_false_iff_ne.2 (by omega)
          have y2 : (mb == 0) = false := beq_eq_false_iff_ne.2 (by omega)
          have hyp : (0 : Int) < (mb : Int) := by omega
          have hkI : (at_ : Int) % (mb : Int) = (k : Int) := by rw [← HK.out, HMB.out]; rfl
          have hto := run_to8 Ab mb cb k (by omega)
          have z6' : w6.heap.size ≤ (w6.alloc (.cells #[.int .i64 (mb : Int), .int .i64 3] 28)).heap.size := by simp
          have hI7 := ((hI.below (below_drewN B6 n7)).more (B' := ((w6.alloc (.cells #[.int .i64 (mb : Int), .int .i64 3] 28)).drewN n7).heap.size) (by show w.heap.size ≤ (w6.alloc _).heap.size; have := B6.size; exact this))
          have hr7 := ((hrb6.drewN n7).take (k := k) (by omega)).more (B' := ((w6.alloc (.cells #[.int .i64 (mb : Int), .int .i64 3] 28)).drewN n7).heap.size) (by show w2.heap.size ≤ (w6.alloc _).heap.size; simp; omega)
          go_wp2_with fail
          refine (HS4.out _ _ _ cb hr7 hI7).mono ?_
          rintro e w8 ⟨hb8, rfl⟩
          rw [show spotOf a 2 = .agg #[.int .i64 (a : Int), .int .i64 2] from rfl]
          go_wp2_with fail
          go_ret
          have B8 := (below_drewN B6 n7).trans (hb8.mono (B' := w.heap.size) (by have := (below_drewN B6 n7).size; exact this))
          exact ⟨rfl, B8.alloc B8.size _⟩

theorem cursorBack_walks : WalksTrue 5 Try.f5 := by
  intro H enc W base args ds p hval hA
  rw [Try.params5] at hA hval
  obtain ⟨v0, vs0, d0, ds0, p0, q0, hargs, rfl, rfl, h0, r0⟩ := trodAll_cons hA
  obtain ⟨v1, vs1, d1, ds1, p1, q1, rfl, rfl, rfl, h1, r1⟩ := trodAll_cons r0
  obtain ⟨v2, vs2, d2, ds2, p2, q2, rfl, rfl, rfl, h2, r2⟩ := trodAll_cons r1
  obtain ⟨v3, vs3, d3, ds3, p3, q3, rfl, rfl, rfl, h3, r3⟩ := trodAll_cons r2
  obtain ⟨rfl, rfl, rfl⟩ := trodAll_nil r3
  obtain rfl : args = #[v0, v1, v2, v3] := by cases args; simp_all
  obtain ⟨A0, len0, cap0, xs0, rfl, hc0, hm0, hI0, hR0⟩ := open_items (hval 0 23 v0 rfl rfl) h0
  obtain ⟨A1, len1, cap1, xs1, rfl, hc1, hm1, hI1, hR1⟩ := open_pieces (hval 1 25 v1 rfl rfl) h1
  obtain ⟨a2, rfl, rfl, rfl, w2⟩ := open_int Try.underlying40 (hval 2 40 v2 rfl rfl) h2
  obtain ⟨g2a, g2b⟩ := range_u16 w2
  obtain ⟨n2, rfl⟩ := Int.eq_ofNat_of_zero_le g2a
  obtain ⟨a3, rfl, rfl, rfl, w3⟩ := open_int Try.underlying5 (hval 3 5 v3 rfl rfl) h3
  obtain ⟨g3a, g3b⟩ := range_u8 w3
  obtain ⟨n3, rfl⟩ := Int.eq_ofNat_of_zero_le g3a
  exact cursorBack_walk A0 len0 cap0 xs0 hc0 hm0 hR0 A1 len1 cap1 xs1 hc1 hm1 hR1 n2 (by omega) n3 (by omega) W hI0 hI1

theorem cursorBack_said : Rows.CursorBackSaid :=
  OpenClaim.holds_of_wide 5 Try.f5 rfl rfl rfl rfl rfl rfl rfl ⟨rfl, rfl, rfl, rfl, rfl⟩ rfl rfl rfl rfl rfl (by kernel_rfl) Try.func5 (by kernel_rfl)
    (of_decide_eq_true (by kernel_rfl)) (by unfold Func.isWrapper; first | (rw [if_pos (by decide +kernel)]; kernel_rfl) | (rw [if_neg (by decide +kernel)]; exact ⟨rfl, rfl⟩))
    (fun os started H enc _ => law_lift (s := Rows.cursorBackSpec) Try.func5 (by kernel_rfl) rfl rfl (by intro H ds hd; match ds, hd with | [_, _, _, _], _ => exact ⟨rfl, rfl, rfl⟩) (by kernel_rfl) cursorBack_walks os started H enc
      (ChangeSpec.witness6 (enc := enc) (C := Try.checked) false ⟨#[], #[.slice none 0 0, .slice none 0 0, .int .u16 0, .int .u8 0], []⟩ 8 (by kernel_rfl) (by kernel_rfl) (by kernel_rfl) (by kernel_rfl)))

end Go.Proofs.Ytgcdjbhfphglfaa
