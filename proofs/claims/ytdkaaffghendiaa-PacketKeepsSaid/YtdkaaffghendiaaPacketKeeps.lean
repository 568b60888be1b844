/-
  PROVED HERE: 'PacketKeepsSaid': whatever bytes frame and load and tuple t are, the Go function PacketKeeps of package wayleavelaw11 returns true, and its arguments read behind the call as they read before. No condition.
-/
import Derived.Test.YtdkaaffghendiaaKLaw2
import Derived.Test.YtdkaaffghendiaaKRMake
namespace Go.Proofs.Ytdkaaffghendiaa
set_option maxRecDepth 100000
open Go.RowKit Go.Lib Go.ChangeShapes Go.WideShapes Go.ChangeAt

theorem own_rdG {w : World} {base : Nat} {v : Value} {xs : List UInt8} (h : Own8 w base v xs) {n : Nat} (hn : xs.length = n) : ∃ A c, v = .slice A n c ∧ n ≤ c ∧ c ≤ maxLen ∧ Rd w w.heap.size A n xs ∧ (0 < n → ∃ g, A = some ⟨g, 0, none⟩ ∧ base ≤ g) := by
  subst hn
  exact h.rd
theorem own_lt {w : World} {base n c : Nat} {A : Option Addr} {xs : List UInt8} (h : Own8 w base (.slice A n c) xs) (_hr : Rd w w.heap.size A n xs) : ∀ g, (Value.slice A n c).ownBlock = some g → g < w.heap.size := by
  intro g hg
  exact (World.ownsRow.lt h g hg).2
set_option maxHeartbeats 8000000 in
theorem packetKeeps_walk (A : Option Addr) (len cap : Nat) (xs : List UInt8) (hca : len ≤ cap) (hma : cap ≤ maxLen) (t : Tu) (ho : t.Ok) (B : Option Addr) (m cb : Nat) (ys : List UInt8) (hcb : m ≤ cb) (hmb : cb ≤ maxLen) (w : World) (hI : Rd w w.heap.size A len xs) (hJ : Rd w w.heap.size B m ys) :
    Calls Try.prog 9 #[.slice A len cap, tuC t, .slice B m cb] w fun e w' => e = .returned (.bool true) ∧ Below w.heap.size w w' := by
  have hml : len ≤ 9223372036854775807 := by unfold maxLen at hma; omega
  have hmm : m ≤ 9223372036854775807 := by unfold maxLen at hmb; omega
  obtain ⟨Y, hY⟩ : ∃ Y : World, w.alloc (.cells (tuL t).toArray 28) = Y := ⟨_, rfl⟩
  have HT := Lib.hid (show Blk Y 28 w.heap.size (tuL t) by rw [← hY]; exact Blk_10.new w _ _)
  have HB := Lib.hid (show Below w.heap.size w Y by rw [← hY]; exact (Below.refl w.heap.size w).alloc (Nat.le_refl _) _)
  have HO := Lib.hid ho
  have HRX := Lib.hid (fun W (hB : Below w.heap.size w W) => (hI.below hB))
  have HRY := Lib.hid (fun W (hB : Below w.heap.size w W) => (hJ.below hB))
  have HXL := Lib.hid hI.len
  have HYL := Lib.hid hJ.len
  have E1 := Lib.hid (show tuC t = .agg (tuL t).toArray from rfl)
  obtain ⟨C1, hC1⟩ : ∃ C, (tuL t).toArray = C := ⟨_, rfl⟩
  rw [E1.out]
  rw [hC1] at hY ⊢
  rw [hC1] at E1
  have HC1 := Lib.hid hC1
  have EQ := Lib.hid hY
  have hws : w.heap.size < Y.heap.size := HT.out.lt
  clear hI hJ ho hY hC1
  go_enter Try.func9, Try.ntmps9
  go_wp2_with fail
  rw [EQ.out]
  refine (awake_any _).mono ?_
  rintro e w1 ⟨rfl, hb1⟩
  have HB1 := Lib.hid (HB.out.trans (hb1.mono HB.out.size))
  have HT1 := Lib.hid (HT.out.below HT.out.lt hb1)
  have hs1 : w.heap.size < w1.heap.size := Nat.lt_of_lt_of_le hws hb1.size
  clear hb1
  by_cases hbig : 3000 < len ∨ 300 < m
  · by_cases hn : 3000 < len
    · have hn' : (3000 : Int) < (len : Int) := by omega
      have hnb : decide ((3000 : Int) < (len : Int)) = true := decide_eq_true hn'
      clear hbig hn
      go_wp2_with fail
      refine (awake_any _).mono ?_
      rintro e w2 ⟨rfl, hb2⟩
      go_wp2_with fail
      go_ret
      exact ⟨rfl, HB1.out.trans (hb2.mono HB1.out.size)⟩
    · have hn' : ¬ (3000 : Int) < (len : Int) := by omega
      have hnb : decide ((3000 : Int) < (len : Int)) = false := decide_eq_false hn'
      have hl' : (300 : Int) < (m : Int) := by omega
      have hlb : decide ((300 : Int) < (m : Int)) = true := decide_eq_true hl'
      clear hbig hn
      go_wp2_with fail
      refine (awake_any _).mono ?_
      rintro e w2 ⟨rfl, hb2⟩
      go_wp2_with fail
      go_ret
      exact ⟨rfl, HB1.out.trans (hb2.mono HB1.out.size)⟩
  · have hn' : ¬ (3000 : Int) < (len : Int) := by omega
    have hnb : decide ((3000 : Int) < (len : Int)) = false := decide_eq_false hn'
    have hl' : ¬ (300 : Int) < (m : Int) := by omega
    have hlb : decide ((300 : Int) < (m : Int)) = false := decide_eq_false hl'
    have hlen : len ≤ 3000 := by omega
    have hm1 : m ≤ 300 := by omega
    clear hbig
    have HE1 := Lib.hid (empty8 (base := w1.heap.size) w1 (Nat.le_refl _))
    have HX1 := Lib.hid ((HRX.out w1 HB1.out).more HB1.out.size)
    have LA := Lib.hid (show ([] : List UInt8).length + len ≤ 2000000000 by simp; omega)
    have LB := Lib.hid (show ([] : List UInt8).length + m ≤ 2000000000 by simp; omega)
    go_wp2_with (first
      | ((with_reducible show wpList _ _ _ (⟨some 27, _, _, _, _, _⟩ :: _) _ _); refine wpList_append8 (o := ⟨some 27, _, _, _, _, _⟩) rfl _ _ rfl w1.heap.size _ [] (by rfl) HE1.out _ A len cap xs (by rfl) (HX1.out.alloc (Nat.le_refl _) _) LA.out (by simp) ?_; intro v2 w2 ho2 hg2 hq2; clear hq2; rw [List.nil_append] at ho2; have e2 : Below w1.heap.size w1 w2 := ((Below.refl _ w1).alloc (Nat.le_refl _) (.cells #[] 5)).grown hg2 (by simp) HE1.out.lt; obtain ⟨A2, c2, rfl, hc2, hm2, _⟩ := ho2.formN HXL.out; have z2 := e2.size; have HO2 := Lib.hid ho2; have HB2 := Lib.hid (HB1.out.trans (e2.mono HB1.out.size)); have HT2 := Lib.hid (HT1.out.below hs1 e2); have HE2 := Lib.hid (empty8 (base := w2.heap.size) w2 (Nat.le_refl _)); have HY2 := Lib.hid ((HRY.out w2 HB2.out).more HB2.out.size); clear ho2 hg2 e2)
      | ((with_reducible show wpList _ _ _ (⟨some 30, _, _, _, _, _⟩ :: _) _ _); refine wpList_append8 (o := ⟨some 30, _, _, _, _, _⟩) rfl _ _ rfl w2.heap.size _ [] (by rfl) HE2.out _ B m cb ys (by rfl) (HY2.out.alloc (Nat.le_refl _) _) LB.out (by simp) ?_; intro v3 w3 ho3 hg3 hq3; clear hq3; rw [List.nil_append] at ho3; have e3 : Below w2.heap.size w2 w3 := ((Below.refl _ w2).alloc (Nat.le_refl _) (.cells #[] 5)).grown hg3 (by simp) HE2.out.lt; obtain ⟨A3, c3, e3v, _, _, hr3, hA3⟩ := own_rdG ho3 HYL.out; subst e3v; have z3 := e3.size; have HO3 := Lib.hid ho3; have HLT3 := Lib.hid (own_lt ho3 hr3); have HB3 := Lib.hid (HB2.out.trans (e3.mono HB2.out.size)); have HT3 := Lib.hid (HT2.out.below HT2.out.lt e3); have HO23 := Lib.hid (HO2.out.below e3); have HO2r := Lib.hid (HO23.out.rdN HXL.out).2.2; clear ho3 hg3 e3 hr3))
    clear hn' hnb hl' hlb
    have HRd := Lib.hid (pread_any A2 len c2 xs (by omega) hc2 hm2 w3 HO2r.out)
    obtain ⟨p, hp⟩ : ∃ p, readK xs = p := ⟨_, rfl⟩
    rw [hp] at HRd
    clear hp
    go_wp2_with fail
    refine HRd.out.mono ?_
    rintro e w4 ⟨rfl, hb4⟩
    have z4 := hb4.size
    have HB4 := Lib.hid (HB3.out.trans (hb4.mono HB3.out.size))
    have HT4 := Lib.hid (HT3.out.below HT3.out.lt hb4)
    have HO24 := Lib.hid (HO23.out.below hb4)
    have HO34 := Lib.hid (HO3.out.below hb4)
    obtain ⟨hc3, hm3, hr34⟩ := HO34.out.rdN HYL.out
    have MK := Lib.hid (pmake_any zero_six (A := none) (n := 0) (cap := 0) (by omega) HO.out 0 (B := A3) (len := m) (cb := c3) (load := ys) (by omega) w4 (TagsAt.nil_ none) hr34)
    rw [E1.out] at MK
    unfold MakeGave at MK
    rw [HYL.out] at MK
    clear hb4 hr34
    go_wp2_with (first
      | ((with_reducible show wpList _ _ _ (⟨some 34, _, _, _, _, _⟩ :: _) _ _); refine wpList_buildw (op := ⟨some 34, _, _, _, _, _⟩) 36 _ rfl (by rfl) _ (by kernel_rfl) (lkL Lk.zero (.slice none 0 0)).toArray built_lk0 ?_)
      | ((with_reducible show wpList _ _ _ (⟨some 35, _, _, _, _, _⟩ :: _) _ _); refine wpList_loadM 28 _ rfl (by rfl) w.heap.size 0 (by rfl) (tuL t) (Blk_10.range HT4.out) _ Try.underlying28 rfl (sizeTuL HO.out) ?_; rw [HC1.out]))
    refine MK.out.mono ?_
    rintro e w5 ⟨hno, hyes, hb5⟩
    have z5 := hb5.size
    have HB5 := Lib.hid (HB4.out.trans (hb5.mono HB4.out.size))
    have HT5 := Lib.hid (HT4.out.below HT4.out.lt hb5)
    have HO25 := Lib.hid (HO24.out.below hb5)
    have HO35 := Lib.hid (HO34.out.below hb5)
    obtain ⟨_, _, hr25⟩ := HO25.out.rdN HXL.out
    obtain ⟨_, _, hr35⟩ := HO35.out.rdN HYL.out
    have S1 := Lib.hid (same_any w5 c2 cap hr25 (HRX.out w5 HB5.out))
    have S2 := Lib.hid (same_any w5 c3 cb hr35 (HRY.out w5 HB5.out))
    clear hb5 hr25 hr35
    obtain ⟨v5, ev, hev, hyy⟩ : ∃ (v : Value) (ev : Nat), e = .returned (.tuple #[v, .int .i64 (ev : Int)]) ∧ (ev = 0 → MakeOk Lk.zero t 0 ∧ ihN t + (shN_ t + m) ≤ 65535 ∧ Own8 w5 w4.heap.size v (makeK Lk.zero t 0 ys)) := by
      by_cases h0 : whyN Lk.zero t 0 m = 0
      · obtain ⟨hok, hsz⟩ := why_zero h0
        obtain ⟨v, e5, hov⟩ := hyes h0
        exact ⟨v, 0, e5, fun _ => ⟨hok, hsz, hov⟩⟩
      · exact ⟨_, _, hno h0, fun h => absurd h h0⟩
    subst hev
    have HYY := Lib.hid hyy
    clear hno hyes hyy
    go_wp2_with fail
    refine S1.out.mono ?_
    rintro e w' ⟨rfl, rfl⟩
    go_wp2_with fail
    refine S2.out.mono ?_
    rintro e w' ⟨rfl, rfl⟩
    go_wp2_with fail
    have HG3 := Lib.hid hA3
    go_loopw [11] (fun i wr => ∃ (k : Nat) (cur : List UInt8), k ≤ m ∧ i = .int .i64 (k : Int) ∧ cur.length = m ∧ Own8 wr w2.heap.size (.slice A3 m c3) cur ∧ w5.grownBy wr (Value.slice A3 m c3).ownBlock) (fun i _ => m - (intOf i).toNat)
    case atStart => exact ⟨0, _, by omega, rfl, HYL.out, HO35.out, World.grownBy.refl _ _⟩
    case round =>
      obtain ⟨k, cur, hk, rfl, hcl, hown, hgr⟩ := hrel
      by_cases hlt : k < m
      · have hlt' : (k : Int) < (m : Int) := by omega
        obtain ⟨g, rfl, hgb⟩ := HG3.out (by omega)
        obtain ⟨x, hx⟩ : ∃ x, cur[k]? = some x := ⟨_, List.getElem?_eq_getElem (by omega)⟩
        have hcell := hown.byte hx
        have hxor : bits .xor .u8 (x.toNat : Int) 255 = ((x ^^^ 255).toNat : Int) := xor8 x 255
        have HW := Lib.hid hown
        have HCL := Lib.hid hcl
        have HGR := Lib.hid hgr
        clear hx hown hgr hcl
        go_wp2_with (((with_reducible show wpList _ _ _ (⟨none, .store 5 (.tmp 63) _, _, _, _, _⟩ :: _) _ _); refine wpList_storeOG rfl (.tmp 63) _ rfl g k (by rfl) (x ^^^ 255) ((x ^^^ 255).toNat : Int) rfl (by rfl) cur m c3 w2.heap.size HCL.out HW.out hlt ?_; intro wk hok hgk; have HW2 := Lib.hid hok; have HCL2 := Lib.hid (show (cur.set k (x ^^^ 255)).length = m by rw [List.length_set]; exact HCL.out); have HGR2 := Lib.hid (gb_trans HGR.out hgk); clear hok hgk))
        go_roundw
        case rel => exact ⟨k + 1, _, by omega, by go_num, HCL2.out, HW2.out, HGR2.out⟩
        case measure => simp [intOf]; omega
      · obtain rfl : k = m := by omega
        have hrow : ∀ g, (Value.slice A3 k c3).ownBlock = some g → w2.heap.size ≤ g ∧ g < w3.heap.size := fun g e => by
          have h1 := HO3.out.lt g e
          refine ⟨h1, ?_⟩
          exact HLT3.out g e
        have HBr := Lib.hid (HB5.out.grown hgr HB5.out.size (fun g hg => by have := (hrow g hg).1; have := HB2.out.size; omega))
        have HTr := Lib.hid (show Blk wr 28 w.heap.size (tuL t) from (hgr.block w.heap.size HT5.out.lt (fun e => by have := (hrow _ e.symm).1; have := HT2.out.lt; omega)).trans HT5.out)
        have HVr := Lib.hid (fun (h : ev = 0) => (HYY.out h).2.2.kept hgr (by
          cases hu : v5.ownBlock with
          | none => exact .inl rfl
          | some g => exact .inr (fun e => by have := (HYY.out h).2.2.lt g hu; have := (hrow g e.symm).2; omega)))
        have HGR := Lib.hid hgr
        clear hgr hown hlt hk hcl hrow
        by_cases h0 : ev = 0
        · subst h0
          obtain ⟨hok, hsz, _⟩ := HYY.out rfl
          have hov := HVr.out rfl
          have hmkl := makeK_len zero_six HO.out 0 ys
          obtain ⟨ML, hML⟩ : ∃ q, (makeK Lk.zero t 0 ys).length = q := ⟨_, rfl⟩
          have hMLs : ML ≤ 1000000 := by rw [← hML, hmkl, HYL.out]; show 14 + 4 * 0 + _ ≤ _; omega
          obtain ⟨A5, c5, rfl, _, _, hr5⟩ := hov.formN hML
          have HRM := Lib.hid (rmake_any zero_six (A := none) (n := 0) (cap := 0) (by omega) HO.out hok (B := B) (len := k) (cb := cb) (load := ys) hsz wr (TagsAt.nil_ none) ((HRY.out wr HBr.out).more HBr.out.size))
          rw [E1.out] at HRM
          have HR5 := Lib.hid hr5
          have HML := Lib.hid hML
          clear hok hsz hov hmkl hML hr5
          go_wp2_with (first
            | ((with_reducible show wpList _ _ _ (⟨some 68, _, _, _, _, _⟩ :: _) _ _); refine wpList_buildw (op := ⟨some 68, _, _, _, _, _⟩) 36 _ rfl (by rfl) _ (by kernel_rfl) (lkL Lk.zero (.slice none 0 0)).toArray built_lk0 ?_)
            | ((with_reducible show wpList _ _ _ (⟨some 69, _, _, _, _, _⟩ :: _) _ _); refine wpList_loadM 28 _ rfl (by rfl) w.heap.size 0 (by rfl) (tuL t) (Blk_10.range HTr.out) _ Try.underlying28 rfl (sizeTuL HO.out) ?_; rw [HC1.out]))
          refine HRM.out.mono ?_
          rintro e w7 ⟨v7, rfl, ho7, hb7⟩
          obtain ⟨A7, c7, rfl, _, _, hr7⟩ := ho7.formN HML.out
          have S3 := Lib.hid (same_any w7 c5 c7 ((HR5.out.below hb7).more hb7.size) hr7)
          have HB7 := Lib.hid (HBr.out.trans (hb7.mono HBr.out.size))
          clear ho7 hr7 hb7
          go_wp2_with fail
          refine S3.out.mono ?_
          rintro e w8 ⟨rfl, rfl⟩
          go_wp2_with fail
          go_ret
          exact ⟨rfl, HB7.out⟩
        · have q1 : ((ev : Int) != 0) = true := by simp; omega
          have q2 : (ev != 0) = true := by simp [h0]
          clear h0
          go_wp2_with fail
          go_ret
          exact ⟨rfl, HBr.out⟩

theorem packetKeeps_walks : WalksTrue 9 Try.f9 := by
  intro H enc W base args ds p hval hA
  rw [Try.params9] at hA hval
  obtain ⟨v0, vs0, d0, ds0, p0, q0, hargs, rfl, rfl, h0, r0⟩ := trodAll_cons hA
  obtain ⟨v1, vs1, d1, ds1, p1, q1, rfl, rfl, rfl, h1, r1⟩ := trodAll_cons r0
  obtain ⟨v2, vs2, d2, ds2, p2, q2, rfl, rfl, rfl, h2, r2⟩ := trodAll_cons r1
  obtain ⟨rfl, rfl, rfl⟩ := trodAll_nil r2
  obtain rfl : args = #[v0, v1, v2] := by cases args; simp_all
  obtain ⟨A0, len0, cap0, xs0, rfl, hc0, hm0, hI0⟩ := open_bytes (hval 0 22 v0 rfl rfl) h0
  obtain ⟨t1, rfl, o1⟩ := open_tuple (hval 1 28 v1 rfl rfl) h1
  obtain ⟨A2, len2, cap2, xs2, rfl, hc2, hm2, hI2⟩ := open_bytes (hval 2 22 v2 rfl rfl) h2
  exact packetKeeps_walk A0 len0 cap0 xs0 hc0 hm0 t1 o1 A2 len2 cap2 xs2 hc2 hm2 W hI0 hI2

theorem packetKeeps_said : Rows.PacketKeepsSaid :=
  OpenClaim.holds_of_wide 9 Try.f9 rfl rfl rfl rfl rfl rfl rfl ⟨rfl, rfl, rfl, rfl, rfl⟩ rfl rfl rfl rfl rfl (by kernel_rfl) Try.func9 (by kernel_rfl)
    (of_decide_eq_true (by kernel_rfl)) (by unfold Func.isWrapper; first | (rw [if_pos (by decide +kernel)]; kernel_rfl) | (rw [if_neg (by decide +kernel)]; exact ⟨rfl, rfl⟩))
    (fun os started H enc _ => law_lift (s := Rows.packetKeepsSpec) Try.func9 (by kernel_rfl) rfl rfl (by intro H ds hd; match ds, hd with | [_, _, _], _ => exact ⟨rfl, rfl, rfl⟩) (by kernel_rfl) packetKeeps_walks os started H enc
      (ChangeSpec.witness6 (enc := enc) (C := Try.checked) false ⟨#[], #[.slice none 0 0, .agg #[.bool false, .int .u8 0, .int .u8 0, .int .u8 0, .int .u8 0, .int .u8 0, .int .u8 0, .int .u8 0, .int .u8 0, .int .u8 0, .int .u8 0, .int .u8 0, .int .u8 0, .int .u8 0, .int .u8 0, .int .u8 0, .int .u8 0, .bool false, .int .u8 0, .int .u8 0, .int .u8 0, .int .u8 0, .int .u8 0, .int .u8 0, .int .u8 0, .int .u8 0, .int .u8 0, .int .u8 0, .int .u8 0, .int .u8 0, .int .u8 0, .int .u8 0, .int .u8 0, .int .u8 0, .int .i64 0, .int .i64 0, .int .i64 0], .slice none 0 0], []⟩ 8 (by kernel_rfl) (by kernel_rfl) (by kernel_rfl) (by kernel_rfl)))

end Go.Proofs.Ytdkaaffghendiaa
