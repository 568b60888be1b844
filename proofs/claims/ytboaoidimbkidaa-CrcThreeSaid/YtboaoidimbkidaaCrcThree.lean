/-
  PROVED HERE: 'CrcThreeSaid': whatever a, b and c are, the Go function CrcThree of package wayleavelaw03 returns true. No condition.
-/
import Derived.Test.YtboaoidimbkidaaCrcAwake
import Derived.Test.YtboaoidimbkidaaLift
import Derived.Deep.RegionHeld3
import Derived.Deep.AppendLies
namespace Go.Proofs.Ytboaoidimbkidaa
open Go.RowKit Go.Lib Go.ChangeShapes Go.WideShapes Go.ChangeAt

/-- append onto an owned slice of bytes, at a step of a region that draws its order. -/
theorem step_append8 {w : World} {ops : Array Oper} {o : Oper} {a : Act} {K : Act → World → Prop} {Q : Exit → Act → World → Prop} {E : Prop} (hgd : o.guard = none) (s x : Operand)
    (ho : o.op = .call { callee := .builtin .append, args := #[s, x], argTypes := #[22, 22] })
    (base : Nat) (v : Value) (xs : List UInt8) (hs : a.eval s = v) (hown : Own8 w base v xs) (B : Nat) (A : Option Addr) (m c : Nat) (ys : List UInt8) (hx : a.eval x = .slice A m c) (hr : Rd w B A m ys)
    (hlen : xs.length + m ≤ 2000000000) (hbase : base ≤ w.heap.size)
    (h : ∀ v' w', Own8 w' base v' (xs ++ ys) → w.grownBy w' v.ownBlock → K (a.put o.dst v') w') :
    if Region.wanted o (yielded ops a.tmps) = true then Oper.wp Try.prog o a w K Q else E := by
  have hw : Region.wanted o (yielded ops a.tmps) = true := by simp [Region.wanted, hgd]
  rw [if_pos hw]
  obtain ⟨v', w', hrun, h2, h3, h4⟩ := run_append8 w o.type base v xs hown B A m c ys hr hlen hbase
  unfold Oper.wp execOp
  simp only [ho, resolve, invoke, builtin, Sem.run_bind, Sem.run_pure, Result.andThen_ok, List.map_toArray, List.map_cons, List.map_nil, hs, hx, hrun]
  exact h v' w' h2 h3

theorem xor8 (x y : UInt8) : bits .xor .u8 (x.toNat : Int) (y.toNat : Int) = ((x ^^^ y).toNat : Int) := by
  rw [u8_xor_nat _ _ x.toNat_lt y.toNat_lt, UInt8.toNat_xor]

set_option maxRecDepth 100000 in
set_option maxHeartbeats 4000000 in
theorem crcThree_walk (A : Option Addr) (len cap : Nat) (xs : List UInt8) (_hcap : len ≤ cap) (_hcm : cap ≤ maxLen) (A1 : Option Addr) (len1 cap1 : Nat) (ys : List UInt8) (_hcap1 : len1 ≤ cap1) (_hcm1 : cap1 ≤ maxLen) (A2 : Option Addr) (len2 cap2 : Nat) (zs : List UInt8) (_hcap2 : len2 ≤ cap2) (_hcm2 : cap2 ≤ maxLen) (w : World)
    (hI : Rd w w.heap.size A len xs) (hJ : Rd w w.heap.size A1 len1 ys) (hK : Rd w w.heap.size A2 len2 zs) :
    Calls Try.prog 7 #[.slice A len cap, .slice A1 len1 cap1, .slice A2 len2 cap2] w fun e W' => e = .returned (.bool true) ∧ Below w.heap.size w W' := by
  by_cases hla : len ≤ 500
  · have hla' : decide ((500 : Int) < (len : Int)) = false := decide_eq_false (by omega)
    by_cases h1 : len1 = len
    · subst h1
      by_cases h2 : len2 = len1
      · subst h2
        have hS := sumOn_lt 0 xs (by omega)
        have hU := sumOn_lt 0 ys (by omega)
        have hV := sumOn_lt 0 zs (by omega)
        have hE := sum_three xs ys zs (hJ.len.trans hI.len.symm) (hK.len.trans hI.len.symm)
        have hzl := three_length xs ys zs (hJ.len.trans hI.len.symm) (hK.len.trans hI.len.symm)
        rw [hI.len] at hzl
        have hzg := three_get xs ys zs
        obtain ⟨S, hs⟩ : ∃ S, sumOn 0 xs = S := ⟨_, rfl⟩
        obtain ⟨U, hu⟩ : ∃ U, sumOn 0 ys = U := ⟨_, rfl⟩
        obtain ⟨V, hv⟩ : ∃ V, sumOn 0 zs = V := ⟨_, rfl⟩
        obtain ⟨q, hq⟩ : ∃ q, three xs ys zs = q := ⟨_, rfl⟩
        rw [hq] at hE hzl hzg
        rw [hs] at hE hS
        rw [hu] at hE hU
        rw [hv] at hE hV
        have x1 := xor_w S U hS hU
        have hSU := xor_lt32 hS hU
        obtain ⟨D, hd⟩ : ∃ D, S ^^^ U = D := ⟨_, rfl⟩
        rw [hd] at hE x1 hSU
        have x2 := xor_w D V hSU hV
        obtain ⟨T, ht⟩ : ∃ T, D ^^^ V = T := ⟨_, rfl⟩
        rw [ht] at hE x2
        have KE := Lib.hid hE
        have KS := Lib.hid hs
        have KU := Lib.hid hu
        have KV := Lib.hid hv
        have KL := Lib.hid hzl
        have KG := Lib.hid hzg
        have LX := Lib.hid hI.len
        have LY := Lib.hid hJ.len
        have LZ := Lib.hid hK.len
        clear hE hs hu hv hd ht hq hzl hzg hSU
        go_enter Try.func7, Try.ntmps7
        go_wp2_with fail
        refine (awake_any _).mono ?_
        rintro e w1 ⟨rfl, hb1⟩
        go_wp2_with fail
        go_loopw [7, 8] (fun v i wr => ∃ k : Nat, k ≤ len2 ∧ i = .int .i64 (k : Int) ∧ Own8 wr w.heap.size v (q.take k) ∧ Below w.heap.size w wr)
          (fun _ i _ => len2 - (intOf i).toNat)
        case atStart => exact ⟨0, by omega, rfl, Own8.nil_ _ _, hb1⟩
        case round =>
          obtain ⟨k, hk, rfl, hown, hB⟩ := hrel
          have zr := hB.size
          by_cases hlt : k < len2
          · have hlt' : (k : Int) < (len2 : Int) := by omega
            have hk0 : (0 : Int) ≤ (k : Int) := by omega
            obtain ⟨b0, o0, rfl, hl0⟩ := hI.addr (by omega)
            obtain ⟨b1, o1, rfl, hl1⟩ := hJ.addr (by omega)
            obtain ⟨b2, o2, rfl, hl2⟩ := hK.addr (by omega)
            have c0 := (hI.below hB).cell (k := k) hlt
            have c1 := (hJ.below hB).cell (k := k) hlt
            have c2 := (hK.below hB).cell (k := k) hlt
            obtain ⟨x, hx⟩ : ∃ x, xs[k]'(by rw [LX.out]; omega) = x := ⟨_, rfl⟩
            obtain ⟨y, hy⟩ : ∃ y, ys[k]'(by rw [LY.out]; omega) = y := ⟨_, rfl⟩
            obtain ⟨z, hz⟩ : ∃ z, zs[k]'(by rw [LZ.out]; omega) = z := ⟨_, rfl⟩
            rw [hx] at c0
            rw [hy] at c1
            rw [hz] at c2
            have hqk := KG.out k x y z (by rw [← hx]; exact List.getElem?_eq_getElem _) (by rw [← hy]; exact List.getElem?_eq_getElem _) (by rw [← hz]; exact List.getElem?_eq_getElem _)
            clear hx hy hz
            have y1 := xor8 x y
            obtain ⟨d, hd⟩ : ∃ d, x ^^^ y = d := ⟨_, rfl⟩
            rw [hd] at y1 hqk
            have y2 := xor8 d z
            obtain ⟨r, hr⟩ : ∃ r, d ^^^ z = r := ⟨_, rfl⟩
            rw [hr] at y2 hqk
            clear hd hr
            have hnext : q.take (k + 1) = q.take k ++ [r] := by rw [List.take_add_one, hqk]; rfl
            have hpl : (q.take k).length = k := by rw [List.length_take, KL.out]; omega
            obtain ⟨pre, hpre⟩ : ∃ pre, q.take k = pre := ⟨_, rfl⟩
            rw [hpre] at hown hnext hpl
            have KN := Lib.hid hnext
            have KP := Lib.hid hpl
            clear hnext hqk hpre hpl
            have a0 : u7.ownBlock ≠ some b0 := fun e => by have := hown.lt _ e; omega
            have a1 : u7.ownBlock ≠ some b1 := fun e => by have := hown.lt _ e; omega
            have a2 : u7.ownBlock ≠ some b2 := fun e => by have := hown.lt _ e; omega
            have HB := Lib.hid hB
            clear hB hI hJ hK hS hU hV x1 x2 hb1
            go_wp2_with fail
            go_region_held3 (fun w' => w'.cell? ⟨b0, o0 + k, none⟩ = some (.int .u8 (x.toNat : Int)) ∧ w'.cell? ⟨b1, o1 + k, none⟩ = some (.int .u8 (y.toNat : Int)) ∧ w'.cell? ⟨b2, o2 + k, none⟩ = some (.int .u8 (z.toNat : Int)))
              (first
                | go_keep
                | (go_split_ands
                   refine ⟨?_, ?_, ?_⟩
                   · (rw [hgrow.cell_far _ (by simp; omega) (Ne.symm a0)]; assumption)
                   · (rw [hgrow.cell_far _ (by simp; omega) (Ne.symm a1)]; assumption)
                   · (rw [hgrow.cell_far _ (by simp; omega) (Ne.symm a2)]; assumption)))
              ((refine step_append8 (by rfl) _ _ (by rfl) w.heap.size u7 pre (by rfl) ((hown.alloc _).drew) (wr.heap.size + 1) (some ⟨wr.heap.size, 0, none⟩) 1 1 [r] (by rfl) ((Rd.one wr r).drew) (by rw [KP.out]; omega) (by simp; omega) ?_; intro v' w2 hown' hgrow))
            have hB2 := ((HB.out.alloc zr (.cells #[.int .u8 (r.toNat : Int)] 5)).drew).grown hgrow (by simp; omega) hown.lt
            clear c0 c1 c2 hgrow hown
            go_wp2_with fail
            go_roundw
            case rel => exact ⟨k + 1, by omega, by go_num, by rw [KN.out]; exact hown', hB2⟩
            case measure => simp [intOf]; omega
          · obtain rfl : k = len2 := by omega
            rw [List.take_of_length_le (by rw [KL.out]; omega)] at hown
            obtain ⟨A4, m4, c4, rfl, hm4, hr4⟩ := hown.rd8 (k := 1000) (by rw [KL.out]; omega)
            clear hown
            go_wp2_with fail
            refine (of_any A4 m4 c4 _ (by omega) wr hr4 (Nat.le_refl _)).mono ?_
            rintro e w5 ⟨rfl, hb5⟩
            rw [KE.out]
            have B5 := hB.trans (hb5.mono zr)
            have hI5 := hI.below B5
            have z5 := B5.size
            go_wp2_with fail
            refine (of_any A k cap _ (by omega) w5 hI5 z5).mono ?_
            rintro e w6 ⟨rfl, hb6⟩
            rw [KS.out]
            have B6 := B5.trans (hb6.mono z5)
            have hJ6 := hJ.below B6
            have z6 := B6.size
            go_wp2_with fail
            refine (of_any A1 k cap1 _ (by omega) w6 hJ6 z6).mono ?_
            rintro e w7 ⟨rfl, hb7⟩
            rw [KU.out]
            have B7 := B6.trans (hb7.mono z6)
            have hK7 := hK.below B7
            have z7 := B7.size
            go_wp2_with fail
            refine (of_any A2 k cap2 _ (by omega) w7 hK7 z7).mono ?_
            rintro e w8 ⟨rfl, hb8⟩
            rw [KV.out]
            have B8 := B7.trans (hb8.mono z7)
            go_wp2_with fail
            go_ret
            exact ⟨rfl, B8⟩
      · have h2' : ((len2 : Int) == (len1 : Int)) = false := beq_eq_false_iff_ne.2 (by omega)
        have h2'' : (len2 == len1) = false := beq_eq_false_iff_ne.2 h2
        go_enter Try.func7, Try.ntmps7
        go_wp2_with fail
        refine (awake_any _).mono ?_
        rintro e w1 ⟨rfl, hb1⟩
        go_wp2_with fail
        refine (awake_any _).mono ?_
        rintro e w2 ⟨rfl, hb2⟩
        have B2 := hb1.trans (hb2.mono hb1.size)
        go_wp2_with fail
        go_ret
        exact ⟨rfl, B2⟩
    · have h1' : ((len1 : Int) == (len : Int)) = false := beq_eq_false_iff_ne.2 (by omega)
      have h1'' : (len1 == len) = false := beq_eq_false_iff_ne.2 h1
      go_enter Try.func7, Try.ntmps7
      go_wp2_with fail
      refine (awake_any _).mono ?_
      rintro e w1 ⟨rfl, hb1⟩
      go_wp2_with fail
      refine (awake_any _).mono ?_
      rintro e w2 ⟨rfl, hb2⟩
      have B2 := hb1.trans (hb2.mono hb1.size)
      go_wp2_with fail
      go_ret
      exact ⟨rfl, B2⟩
  · have hla' : (500 : Int) < (len : Int) := by omega
    go_enter Try.func7, Try.ntmps7
    go_wp2_with fail
    refine (awake_any _).mono ?_
    rintro e w1 ⟨rfl, hb1⟩
    go_wp2_with fail
    refine (awake_any _).mono ?_
    rintro e w2 ⟨rfl, hb2⟩
    have B2 := hb1.trans (hb2.mono hb1.size)
    go_wp2_with fail
    go_ret
    exact ⟨rfl, B2⟩

theorem crcThree_walks : WalksTrue 7 Try.f7 := by
  intro H enc W base args ds p hval hA
  rw [Try.params7] at hA hval
  obtain ⟨v0, vs0, d0, ds0, p0, q0, hargs, rfl, rfl, h0, r0⟩ := trodAll_cons hA
  obtain ⟨v1, vs1, d1, ds1, p1, q1, rfl, rfl, rfl, h1, r1⟩ := trodAll_cons r0
  obtain ⟨v2, vs2, d2, ds2, p2, q2, rfl, rfl, rfl, h2, r2⟩ := trodAll_cons r1
  obtain ⟨rfl, rfl, rfl⟩ := trodAll_nil r2
  obtain rfl : args = #[v0, v1, v2] := by cases args; simp_all
  obtain ⟨A0, len0, cap0, xs0, rfl, hc0, hm0, hI0⟩ := open_bytes (hval 0 22 v0 rfl rfl) h0
  obtain ⟨A1, len1, cap1, xs1, rfl, hc1, hm1, hI1⟩ := open_bytes (hval 1 22 v1 rfl rfl) h1
  obtain ⟨A2, len2, cap2, xs2, rfl, hc2, hm2, hI2⟩ := open_bytes (hval 2 22 v2 rfl rfl) h2
  exact crcThree_walk A0 len0 cap0 xs0 hc0 hm0 A1 len1 cap1 xs1 hc1 hm1 A2 len2 cap2 xs2 hc2 hm2 W hI0 hI1 hI2

theorem crcThree_said : Rows.CrcThreeSaid :=
  OpenClaim.holds_of_wide 7 Try.f7 rfl rfl rfl rfl rfl rfl rfl ⟨rfl, rfl, rfl, rfl, rfl⟩ rfl rfl rfl rfl rfl (by kernel_rfl) Try.func7 (by kernel_rfl)
    (of_decide_eq_true (by kernel_rfl)) (by unfold Func.isWrapper; first | (rw [if_pos (by decide +kernel)]; kernel_rfl) | (rw [if_neg (by decide +kernel)]; exact ⟨rfl, rfl⟩))
    (fun os started H enc _ => law_lift (s := Rows.crcThreeSpec) Try.func7 (by kernel_rfl) rfl rfl (by intro H ds hd; match ds, hd with | [_, _, _], _ => exact ⟨rfl, rfl, rfl⟩) (by kernel_rfl) crcThree_walks os started H enc
      (ChangeSpec.witness6 (enc := enc) (C := Try.checked) false ⟨#[], #[.slice none 0 0, .slice none 0 0, .slice none 0 0], []⟩ 8 (by kernel_rfl) (by kernel_rfl) (by kernel_rfl) (by kernel_rfl)))

end Go.Proofs.Ytboaoidimbkidaa
