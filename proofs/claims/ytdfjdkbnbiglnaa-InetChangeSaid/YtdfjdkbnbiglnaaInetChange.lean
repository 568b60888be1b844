/-
  PROVED HERE: 'InetChangeSaid': whatever ahead, from, to and behind are, the Go function InetChange of package wayleavelaw06 returns true, and its arguments read behind the call as they read before. No condition.
-/
import Derived.Test.YtdfjdkbnbiglnaaIAwake
import Derived.Test.YtdfjdkbnbiglnaaIRef3
import Derived.Test.YtdfjdkbnbiglnaaLift
namespace Go.Proofs.Ytdfjdkbnbiglnaa
open Go.RowKit Go.Lib Go.ChangeShapes Go.WideShapes Go.ChangeAt

theorem some_pos {xs : List UInt8} (h : ∃ x ∈ xs, x ≠ 0) : 0 < wsum false xs := by
  obtain ⟨x, hx, hne⟩ := h
  rcases Nat.eq_zero_or_pos (wsum false xs) with e | e
  · exact absurd ((wsum_zero xs false).1 e x hx) hne
  · exact e
theorem sum_now (W : World) (cs : List Value) (l : List (List UInt8)) (h : CellsAt W W.heap.size cs l) (n cap : Nat) (hn : cs.length = n) (hn2 : n ≤ 1000) (hlen : l.flatten.length ≤ 1000000) (c : Nat) (hc : ckOf l.flatten = c) :
    Calls Try.prog 10 #[.slice (some ⟨W.heap.size, 0, none⟩) n cap] (W.alloc (.cells cs.toArray 22)) fun e W' => e = .returned (.int .u16 (c : Int)) ∧ W.alloc (.cells cs.toArray 22) = W' :=
  sum_row W cs l h n cap hn hn2 hlen c hc 0
theorem one_sum {W : World} {A : Option Addr} {len cap c : Nat} {xs : List UInt8} (h : Rd W W.heap.size A len xs) (hcap : len ≤ cap) (hcm : cap ≤ maxLen) (hlen : len ≤ 1000) (hc : ckOf xs = c) :
    Calls Try.prog 10 #[.slice (some ⟨W.heap.size, 0, none⟩) 1 1] (W.alloc (.cells #[.slice A len cap] 22)) fun e W' => e = .returned (.int .u16 (c : Int)) ∧ W.alloc (.cells #[.slice A len cap] 22) = W' := by
  have hf : ([xs] : List (List UInt8)).flatten = xs := by simp
  exact sum_now W [.slice A len cap] _ (CellsAt.one h hcap hcm) 1 1 rfl (by omega) (by rw [hf, h.len]; omega) c (by rw [hf]; exact hc)

set_option maxRecDepth 100000 in
set_option maxHeartbeats 4000000 in
theorem inetChange_early (A0 : Option Addr) (len0 cap0 : Nat) (_ : len0 ≤ cap0) (_ : cap0 ≤ maxLen) (A1 : Option Addr) (len1 cap1 : Nat) (_ : len1 ≤ cap1) (_ : cap1 ≤ maxLen) (A2 : Option Addr) (len2 cap2 : Nat) (_ : len2 ≤ cap2) (_ : cap2 ≤ maxLen) (A3 : Option Addr) (len3 cap3 : Nat) (_ : len3 ≤ cap3) (_ : cap3 ≤ maxLen) (w : World)
    (h : 200 < len0 ∨ 200 < len1 ∨ len2 ≠ len1 ∨ 200 < len3 ∨ len0 % 2 = 1 ∨ len1 % 2 = 1) :
    Calls Try.prog 6 #[.slice A0 len0 cap0, .slice A1 len1 cap1, .slice A2 len2 cap2, .slice A3 len3 cap3] w fun e W' => e = .returned (.bool true) ∧ Below w.heap.size w W' := by
  by_cases h0 : 200 < len0
  · clear h
    have c0 : (200 : Int) < (len0 : Int) := by omega
    go_enter Try.func6, Try.ntmps6
    go_wp2_with fail
    refine (awake_any _).mono ?_
    rintro e w1 ⟨rfl, hb1⟩
    go_wp2_with fail
    refine (awake_any _).mono ?_
    rintro e w2 ⟨rfl, hb2⟩
    go_wp2_with fail
    go_ret
    exact ⟨rfl, hb1.trans (hb2.mono hb1.size)⟩
  · have c0 : (len0 : Int) ≤ 200 := by omega
    by_cases h1 : 200 < len1
    · clear h
      have c1 : (200 : Int) < (len1 : Int) := by omega
      go_enter Try.func6, Try.ntmps6
      go_wp2_with fail
      refine (awake_any _).mono ?_
      rintro e w1 ⟨rfl, hb1⟩
      go_wp2_with fail
      refine (awake_any _).mono ?_
      rintro e w2 ⟨rfl, hb2⟩
      go_wp2_with fail
      go_ret
      exact ⟨rfl, hb1.trans (hb2.mono hb1.size)⟩
    · have c1 : (len1 : Int) ≤ 200 := by omega
      by_cases h2 : len2 ≠ len1
      · clear h
        have c2 : ((len2 : Int) != (len1 : Int)) = true := bne_iff_ne.2 (by omega)
        have c2' : (len2 != len1) = true := bne_iff_ne.2 (by omega)
        have c2'' : (len2 == len1) = false := beq_eq_false_iff_ne.2 (by omega)
        go_enter Try.func6, Try.ntmps6
        go_wp2_with fail
        refine (awake_any _).mono ?_
        rintro e w1 ⟨rfl, hb1⟩
        go_wp2_with fail
        refine (awake_any _).mono ?_
        rintro e w2 ⟨rfl, hb2⟩
        go_wp2_with fail
        go_ret
        exact ⟨rfl, hb1.trans (hb2.mono hb1.size)⟩
      · obtain rfl : len2 = len1 := by omega
        by_cases h3 : 200 < len3
        · clear h
          have c3 : (200 : Int) < (len3 : Int) := by omega
          go_enter Try.func6, Try.ntmps6
          go_wp2_with fail
          refine (awake_any _).mono ?_
          rintro e w1 ⟨rfl, hb1⟩
          go_wp2_with fail
          refine (awake_any _).mono ?_
          rintro e w2 ⟨rfl, hb2⟩
          go_wp2_with fail
          go_ret
          exact ⟨rfl, hb1.trans (hb2.mono hb1.size)⟩
        · have c3 : (len3 : Int) ≤ 200 := by omega
          by_cases h4 : len0 % 2 = 1
          · clear h
            have c4 : (len0 : Int) % 2 = 1 := by omega
            go_enter Try.func6, Try.ntmps6
            go_wp2_with fail
            refine (awake_any _).mono ?_
            rintro e w1 ⟨rfl, hb1⟩
            go_wp2_with fail
            refine (awake_any _).mono ?_
            rintro e w2 ⟨rfl, hb2⟩
            go_wp2_with fail
            go_ret
            exact ⟨rfl, hb1.trans (hb2.mono hb1.size)⟩
          · have c4 : (len0 : Int) % 2 = 0 := by omega
            have h5 : len2 % 2 = 1 := by omega
            clear h
            have c5 : (len2 : Int) % 2 = 1 := by omega
            go_enter Try.func6, Try.ntmps6
            go_wp2_with fail
            refine (awake_any _).mono ?_
            rintro e w1 ⟨rfl, hb1⟩
            go_wp2_with fail
            refine (awake_any _).mono ?_
            rintro e w2 ⟨rfl, hb2⟩
            go_wp2_with fail
            go_ret
            exact ⟨rfl, hb1.trans (hb2.mono hb1.size)⟩

set_option maxRecDepth 100000 in
set_option maxHeartbeats 4000000 in
theorem inetChange_main (A0 : Option Addr) (len0 cap0 : Nat) (xs0 : List UInt8) (_ : len0 ≤ cap0) (_ : cap0 ≤ maxLen) (A1 : Option Addr) (len1 cap1 : Nat) (xs1 : List UInt8) (_ : len1 ≤ cap1) (_ : cap1 ≤ maxLen) (A2 : Option Addr) (len2 cap2 : Nat) (xs2 : List UInt8) (_ : len2 ≤ cap2) (_ : cap2 ≤ maxLen) (A3 : Option Addr) (len3 cap3 : Nat) (xs3 : List UInt8) (_ : len3 ≤ cap3) (_ : cap3 ≤ maxLen) (w : World)
    (k0 : len0 ≤ 200) (k1 : len1 ≤ 200) (k2 : len2 = len1) (k3 : len3 ≤ 200) (k4 : len0 % 2 = 0) (k5 : len1 % 2 = 0) (hI0 : Rd w w.heap.size A0 len0 xs0) (hI1 : Rd w w.heap.size A1 len1 xs1) (hI2 : Rd w w.heap.size A2 len2 xs2) (hI3 : Rd w w.heap.size A3 len3 xs3) :
    Calls Try.prog 6 #[.slice A0 len0 cap0, .slice A1 len1 cap1, .slice A2 len2 cap2, .slice A3 len3 cap3] w fun e W' => e = .returned (.bool true) ∧ Below w.heap.size w W' := by
  have c0 : (len0 : Int) ≤ 200 := by omega
  have c1 : (len1 : Int) ≤ 200 := by omega
  have c3 : (len3 : Int) ≤ 200 := by omega
  have c4 : (len0 : Int) % 2 = 0 := by omega
  have c5 : (len1 : Int) % 2 = 0 := by omega
  have l0 := hI0.len
  have l1 := hI1.len
  have l2 := hI2.len
  have l3 := hI3.len
  subst k2
  have hnew := chgs_new xs0 xs1 xs2 xs3 (by omega) (by omega) (by omega)
  rw [← changedOf_same (by omega)] at hnew
  have hxl : (xs0 ++ xs1 ++ xs3).length ≤ 600 := by rw [List.length_append, List.length_append]; omega
  have hyl : (xs0 ++ xs2 ++ xs3).length ≤ 600 := by rw [List.length_append, List.length_append]; omega
  have HN := Lib.hid hnew
  have HX := Lib.hid hxl
  have HY := Lib.hid hyl
  have L0 := Lib.hid l0
  have L1 := Lib.hid l1
  have L2 := Lib.hid l2
  clear hnew hxl hyl l0 l1 l2 l3
  go_enter Try.func6, Try.ntmps6
  go_wp2_with fail
  refine (awake_any _).mono ?_
  rintro e w1 ⟨rfl, hb1⟩
  have z1 := hb1.size
  have how := empty8 (base := w1.heap.size) w1 (Nat.le_refl _)
  have be := (Below.refl w1.heap.size w1).alloc (Nat.le_refl _) (.cells #[] 5)
  have rd0 := ((hI0.below hb1).more z1).below be
  go_wp2_with (first
    | (at_builtin; refine wpList_append8 (o := ⟨some 52, _, _, _, _, _⟩) rfl _ _ rfl w1.heap.size _ [] (by rfl) how _ _ _ _ xs0 (by rfl) rd0 (by simp; omega) (by simp) ?_; intro v2 w2 ho2 hg2 _; rw [List.nil_append] at ho2; have b2 := be.grown hg2 be.size how.lt; have rd1 := ((hI1.below hb1).more z1).below b2)
    | (at_builtin; refine wpList_append8 (o := ⟨some 54, _, _, _, _, _⟩) rfl _ _ rfl w1.heap.size _ xs0 (by rfl) ho2 _ _ _ _ xs1 (by rfl) rd1 (by have := L0.out; omega) b2.size ?_; intro v3 w3 ho3 hg3 _; have b3 := b2.grown hg3 b2.size ho2.lt; have rd3 := ((hI3.below hb1).more z1).below b3)
    | (at_builtin; refine wpList_append8 (o := ⟨some 56, _, _, _, _, _⟩) rfl _ _ rfl w1.heap.size _ (xs0 ++ xs1) (by rfl) ho3 _ _ _ _ xs3 (by rfl) rd3 (by have := HX.out; rw [List.length_append] at this ⊢; have := L0.out; have := L1.out; omega) b3.size ?_; intro v4 w4 ho4 hg4 _; have b4 := b3.grown hg4 b3.size ho3.lt; obtain ⟨Aa, ma, ca, rfl, hma, hca, hcma, hra⟩ := ho4.sl; have HMA := Lib.hid hma; clear hma; have B4 := hb1.trans (b4.mono z1); have z4 := B4.size; have how5 := empty8 (base := w4.heap.size) w4 (Nat.le_refl _); have be5 := (Below.refl w4.heap.size w4).alloc (Nat.le_refl _) (.cells #[] 5); have rd5 := ((hI0.below B4).more z4).below be5)
    | (at_builtin; refine wpList_append8 (o := ⟨some 59, _, _, _, _, _⟩) rfl _ _ rfl w4.heap.size _ [] (by rfl) how5 _ _ _ _ xs0 (by rfl) rd5 (by simp; omega) (by simp) ?_; intro v6 w6 ho6 hg6 _; rw [List.nil_append] at ho6; have b6 := be5.grown hg6 be5.size how5.lt; have rd6 := ((hI2.below B4).more z4).below b6)
    | (at_builtin; refine wpList_append8 (o := ⟨some 61, _, _, _, _, _⟩) rfl _ _ rfl w4.heap.size _ xs0 (by rfl) ho6 _ _ _ _ xs2 (by rfl) rd6 (by have := L0.out; omega) b6.size ?_; intro v7 w7 ho7 hg7 _; have b7 := b6.grown hg7 b6.size ho6.lt; have rd7 := ((hI3.below B4).more z4).below b7)
    | (at_builtin; refine wpList_append8 (o := ⟨some 63, _, _, _, _, _⟩) rfl _ _ rfl w4.heap.size _ (xs0 ++ xs2) (by rfl) ho7 _ _ _ _ xs3 (by rfl) rd7 (by have := HY.out; rw [List.length_append] at this ⊢; have := L0.out; have := L2.out; omega) b7.size ?_; intro v8 w8 ho8 hg8 _; have b8 := b7.grown hg8 b7.size ho7.lt; obtain ⟨Ab, mb, cb, rfl, hmb, hcb, hcmb, hrb⟩ := ho8.sl; have HMB := Lib.hid hmb; clear hmb))
  have B8 := B4.trans (b8.mono z4)
  have z8 := B8.size
  have hra' := (hra.below b8).more b8.size
  have hma6 : ma ≤ 600 := by rw [HMA.out]; exact HX.out
  have hmb6 : mb ≤ 600 := by rw [HMB.out]; exact HY.out
  clear HMA HMB HX HY
  obtain ⟨X, hX⟩ : ∃ X, xs0 ++ xs1 ++ xs3 = X := ⟨_, rfl⟩
  obtain ⟨Y, hY⟩ : ∃ Y, xs0 ++ xs2 ++ xs3 = Y := ⟨_, rfl⟩
  rw [hX] at hra' HN
  rw [hY] at hrb HN
  have r1 := (hI1.below B8).more z8
  have r2 := (hI2.below B8).more z8
  clear hX hY ho2 ho3 ho4 ho6 ho7 ho8 hg2 hg3 hg4 hg6 hg7 hg8 b2 b3 b4 b6 b7 b8 how how5 be be5 rd0 rd1 rd3 rd5 rd6 rd7 hra B4 z4 hb1 z1 hI0 hI1 hI2 hI3
  have HL := Lib.hid hrb.len
  go_loop [11, 12] (fun s i => ∃ (k : Nat) (o : Bool), k ≤ mb ∧ s = .bool o ∧ i = .int .i64 (k : Int) ∧ (o = true → ∃ x ∈ Y, x ≠ 0)) (fun _ i => mb - (intOf i).toNat)
  case atStart => exact ⟨0, false, by omega, rfl, rfl, fun h => by cases h⟩
  case round =>
    obtain ⟨k, o, hk, rfl, rfl, ho⟩ := hrel
    by_cases hlt : k < mb
    · have hlt' : (k : Int) < (mb : Int) := by omega
      cases o with
      | true =>
        have HO := Lib.hid ho
        clear ho
        go_wp2_with fail
        go_round
        case rel => exact ⟨k + 1, true, by omega, rfl, by go_num, HO.out⟩
        case measure => simp [intOf]; omega
      | false =>
        obtain ⟨b, off, rfl, hb⟩ := hrb.addr (by omega)
        have hc := hrb.cell (k := k) hlt
        obtain ⟨x, hx⟩ : ∃ x, Y[k]'(by rw [HL.out]; exact hlt) = x := ⟨_, rfl⟩
        have hmem : x ∈ Y := by rw [← hx]; exact List.getElem_mem _
        rw [hx] at hc
        clear hx ho
        by_cases h0 : x = 0
        · subst h0
          have HO := Lib.hid hmem
          clear hmem
          go_wp2_with fail
          go_round
          case rel => exact ⟨k + 1, false, by omega, rfl, by go_num, fun h => by cases h⟩
          case measure => simp [intOf]; omega
        · have hne : x.toNat ≠ 0 := fun e => h0 (UInt8.toNat_inj.1 (by rw [e]; rfl))
          have b1 : ((x.toNat : Int) != 0) = true := bne_iff_ne.2 (by omega)
          have b2 : (x.toNat != 0) = true := bne_iff_ne.2 hne
          have b3 : ((x.toNat : Int) == 0) = false := beq_eq_false_iff_ne.2 (by omega)
          have HO := Lib.hid (show ∃ x ∈ Y, x ≠ 0 from ⟨x, hmem, h0⟩)
          clear hmem h0
          go_wp2_with fail
          go_round
          case rel => exact ⟨k + 1, true, by omega, rfl, by go_num, fun _ => HO.out⟩
          case measure => simp [intOf]; omega
    · obtain rfl : k = mb := by omega
      cases o with
      | false =>
        go_wp2_with fail
        go_ret
        exact ⟨rfl, B8⟩
      | true =>
        have hnew := HN.out (some_pos (ho rfl))
        have hcl := ckOf_le X
        have hdl := ckOf_le Y
        obtain ⟨c, hc⟩ : ∃ c, ckOf X = c := ⟨_, rfl⟩
        obtain ⟨d, hd⟩ : ∃ d, ckOf Y = d := ⟨_, rfl⟩
        rw [hc] at hcl hnew
        rw [hd] at hdl hnew
        have p1 := one_sum hra' hca hcma (by omega) hc
        have p2 := fun (W : World) (h : Below w8.heap.size w8 W) => changed_any c (by omega) A1 len2 cap1 xs1 (by omega) A2 len2 cap2 xs2 (by omega) W (r1.below h) (r2.below h)
        have p3 := fun (W : World) (h : Below w8.heap.size w8 W) => one_sum ((hrb.below h).more h.size) hcb hcmb (by omega) hd
        rw [hnew] at p2
        have e1 : ((d : Int) == (d : Int)) = true := by simp
        have P1 := Lib.hid p1
        have P2 := Lib.hid p2
        have P3 := Lib.hid p3
        clear p1 p2 p3 hnew hc hd ho hra' hrb r1 r2
        go_wp2_with fail
        refine P1.out.mono ?_
        rintro e w9 ⟨rfl, hw9⟩
        have B9 : Below w8.heap.size w8 w9 := by rw [← hw9]; exact (Below.refl _ _).alloc (Nat.le_refl _) _
        clear hw9
        go_wp2_with fail
        refine (P2.out _ B9).mono ?_
        rintro e w' ⟨rfl, rfl⟩
        go_wp2_with fail
        refine (P3.out _ B9).mono ?_
        rintro e w10 ⟨rfl, hw10⟩
        have B10 : Below w8.heap.size w8 w10 := by rw [← hw10]; exact B9.alloc B9.size _
        clear hw10
        go_wp2_with fail
        go_ret
        exact ⟨rfl, B8.trans (B10.mono z8)⟩

set_option maxRecDepth 100000 in
theorem inetChange_walk (A0 : Option Addr) (len0 cap0 : Nat) (xs0 : List UInt8) (_ : len0 ≤ cap0) (_ : cap0 ≤ maxLen) (A1 : Option Addr) (len1 cap1 : Nat) (xs1 : List UInt8) (_ : len1 ≤ cap1) (_ : cap1 ≤ maxLen) (A2 : Option Addr) (len2 cap2 : Nat) (xs2 : List UInt8) (_ : len2 ≤ cap2) (_ : cap2 ≤ maxLen) (A3 : Option Addr) (len3 cap3 : Nat) (xs3 : List UInt8) (_ : len3 ≤ cap3) (_ : cap3 ≤ maxLen) (w : World) (hI0 : Rd w w.heap.size A0 len0 xs0) (hI1 : Rd w w.heap.size A1 len1 xs1) (hI2 : Rd w w.heap.size A2 len2 xs2) (hI3 : Rd w w.heap.size A3 len3 xs3) :
    Calls Try.prog 6 #[.slice A0 len0 cap0, .slice A1 len1 cap1, .slice A2 len2 cap2, .slice A3 len3 cap3] w fun e W' => e = .returned (.bool true) ∧ Below w.heap.size w W' := by
  by_cases h : 200 < len0 ∨ 200 < len1 ∨ len2 ≠ len1 ∨ 200 < len3 ∨ len0 % 2 = 1 ∨ len1 % 2 = 1
  · exact inetChange_early A0 len0 cap0 ‹_› ‹_› A1 len1 cap1 ‹_› ‹_› A2 len2 cap2 ‹_› ‹_› A3 len3 cap3 ‹_› ‹_› w h
  · exact inetChange_main A0 len0 cap0 xs0 ‹_› ‹_› A1 len1 cap1 xs1 ‹_› ‹_› A2 len2 cap2 xs2 ‹_› ‹_› A3 len3 cap3 xs3 ‹_› ‹_› w (by omega) (by omega) (by omega) (by omega) (by omega) (by omega) hI0 hI1 hI2 hI3

theorem inetChange_walks : WalksTrue 6 Try.f6 := by
  intro H enc W base args ds p hval hA
  rw [Try.params6] at hA hval
  obtain ⟨v0, vs0, d0, ds0, p0, q0, hargs, rfl, rfl, h0, r0⟩ := trodAll_cons hA
  obtain ⟨v1, vs1, d1, ds1, p1, q1, rfl, rfl, rfl, h1, r1⟩ := trodAll_cons r0
  obtain ⟨v2, vs2, d2, ds2, p2, q2, rfl, rfl, rfl, h2, r2⟩ := trodAll_cons r1
  obtain ⟨v3, vs3, d3, ds3, p3, q3, rfl, rfl, rfl, h3, r3⟩ := trodAll_cons r2
  obtain ⟨rfl, rfl, rfl⟩ := trodAll_nil r3
  obtain rfl : args = #[v0, v1, v2, v3] := by cases args; simp_all
  obtain ⟨A0, len0, cap0, xs0, rfl, hc0, hm0, hI0⟩ := open_bytes (hval 0 22 v0 rfl rfl) h0
  obtain ⟨A1, len1, cap1, xs1, rfl, hc1, hm1, hI1⟩ := open_bytes (hval 1 22 v1 rfl rfl) h1
  obtain ⟨A2, len2, cap2, xs2, rfl, hc2, hm2, hI2⟩ := open_bytes (hval 2 22 v2 rfl rfl) h2
  obtain ⟨A3, len3, cap3, xs3, rfl, hc3, hm3, hI3⟩ := open_bytes (hval 3 22 v3 rfl rfl) h3
  exact inetChange_walk A0 len0 cap0 xs0 hc0 hm0 A1 len1 cap1 xs1 hc1 hm1 A2 len2 cap2 xs2 hc2 hm2 A3 len3 cap3 xs3 hc3 hm3 W hI0 hI1 hI2 hI3

theorem inetChange_said : Rows.InetChangeSaid :=
  OpenClaim.holds_of_wide 6 Try.f6 rfl rfl rfl rfl rfl rfl rfl ⟨rfl, rfl, rfl, rfl, rfl⟩ rfl rfl rfl rfl rfl (by kernel_rfl) Try.func6 (by kernel_rfl)
    (of_decide_eq_true (by kernel_rfl)) (by unfold Func.isWrapper; first | (rw [if_pos (by decide +kernel)]; kernel_rfl) | (rw [if_neg (by decide +kernel)]; exact ⟨rfl, rfl⟩))
    (fun os started H enc _ => law_lift (s := Rows.inetChangeSpec) Try.func6 (by kernel_rfl) rfl rfl (by intro H ds hd; match ds, hd with | [_, _, _, _], _ => exact ⟨rfl, rfl, rfl⟩) (by kernel_rfl) inetChange_walks os started H enc
      (ChangeSpec.witness6 (enc := enc) (C := Try.checked) false ⟨#[], #[.slice none 0 0, .slice none 0 0, .slice none 0 0, .slice none 0 0], []⟩ 8 (by kernel_rfl) (by kernel_rfl) (by kernel_rfl) (by kernel_rfl)))

end Go.Proofs.Ytdfjdkbnbiglnaa
