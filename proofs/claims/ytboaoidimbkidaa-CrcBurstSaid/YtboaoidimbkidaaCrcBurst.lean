/-
  PROVED HERE: 'CrcBurstSaid': whatever b, at and turn are, the Go function CrcBurst of package wayleavelaw03 returns true. No condition.
-/
import Derived.Test.YtboaoidimbkidaaCrcAwake
import Derived.Test.YtboaoidimbkidaaLift
namespace Go.Proofs.Ytboaoidimbkidaa
open Go.RowKit Go.Lib Go.ChangeShapes Go.WideShapes Go.ChangeAt

theorem range_u16 {n : Int} (h : (Lit.int .u16 n).wf = true) : 0 ≤ n ∧ n < 65536 := by
  simp [Lit.wf, IntKind.min, IntKind.max, IntKind.signed, IntKind.bits] at h; omega
theorem grownBy_set {a w : World} {g : Nat} (h : a.grownBy w (some g)) (k : Nat) (u : Value) : a.grownBy (w.setCell ⟨g, k, none⟩ u) (some g) :=
  ⟨h.os, h.tape, h.output, by simpa [World.setCell] using h.size, fun i hi hne => (Below.heap_setCell w ⟨g, k, none⟩ u i (fun e => hne (by rw [e]))).trans (h.block i hi hne)⟩
theorem Own8.frozen {w : World} {base g n c : Nat} {xs : List UInt8} (h : Own8 w base (.slice (some ⟨g, 0, none⟩) n c) xs) (j : Nat) : w.frozen? ⟨g, j, none⟩ = false := by
  rcases h.2 with ⟨e, _⟩ | ⟨g', cap', cur, e, _, hg, _⟩
  · cases e
  · cases e
    exact frozen_of_row w g j cur _ hg
theorem xor8 (x y : UInt8) : bits .xor .u8 (x.toNat : Int) (y.toNat : Int) = ((x ^^^ y).toNat : Int) := by
  rw [u8_xor_nat _ _ x.toNat_lt y.toNat_lt, UInt8.toNat_xor]
theorem shl8 (r : Nat) (h : r < 8) : (2 : Int) ^ r % 256 = ((UInt8.ofNat (2 ^ r)).toNat : Int) := by
  have hp : (2 : Nat) ^ r < 2 ^ 8 := Nat.pow_lt_pow_right (by decide) h
  have he : ((2 ^ r : Nat) : Int) = (2 : Int) ^ r := by rw [Int.natCast_pow]; rfl
  rw [← he, UInt8.toNat_ofNat']
  generalize 2 ^ r = p at hp
  omega
theorem mul_xor_pow (a b k : Nat) : (a ^^^ b) * 2 ^ k = a * 2 ^ k ^^^ b * 2 ^ k := by
  apply Nat.eq_of_testBit_eq
  intro i
  simp only [Nat.testBit_xor, Nat.testBit_mul_two_pow]
  by_cases h : k ≤ i <;> simp [h]
theorem burst_same {L t j K c : Nat} (h : c = L ^^^ t % 2 ^ j * 2 ^ K) (hb : t / 2 ^ j % 2 = 0) : c = L ^^^ t % 2 ^ (j + 1) * 2 ^ K := by
  rw [bit_more, hb, Nat.zero_mul, Nat.xor_zero]; exact h
theorem burst_more {L t j K : Nat} {cur : List UInt8} {y : UInt8} (h : leOf cur = L ^^^ t % 2 ^ j * 2 ^ K) (hb : t / 2 ^ j % 2 = 1) (hy : cur[(K + j) / 8]? = some y) :
    leOf (cur.set ((K + j) / 8) (y ^^^ UInt8.ofNat (2 ^ ((K + j) % 8)))) = L ^^^ t % 2 ^ (j + 1) * 2 ^ K := by
  rw [leOf_set _ _ _ _ hy (by omega), show 8 * ((K + j) / 8) + (K + j) % 8 = j + K by omega, h, bit_more, hb, Nat.one_mul, mul_xor_pow, Nat.pow_add, Nat.xor_assoc]

/-- The cells of block g, from its head on, are just the bytes cur, and may be written. -/
def Held (w : World) (g : Nat) (cur : List UInt8) : Prop := ∀ j y, cur[j]? = some y → w.cell? ⟨g, j, none⟩ = some (v8 y) ∧ w.frozen? ⟨g, j, none⟩ = false
theorem Held.set {w : World} {g : Nat} {cur : List UInt8} (h : Held w g cur) {k : Nat} {x : UInt8} (hx : cur[k]? = some x) (y : UInt8) : Held (w.setCell ⟨g, k, none⟩ (.int .u8 (y.toNat : Int))) g (cur.set k y) := by
  intro j z hz
  rw [World.frozen?_setCell]
  have hk : k < cur.length := (List.getElem?_eq_some_iff.1 hx).1
  rw [List.getElem?_set] at hz
  by_cases e : k = j
  · subst e
    simp [hk] at hz
    subst hz
    exact ⟨World.cell?_setCell_same _ _ _ (h k x hx).1, (h k x hx).2⟩
  · rw [if_neg e] at hz
    rw [World.cell?_setCell_other _ _ _ _ (by intro e'; cases e'; exact e rfl)]
    exact h j z hz
theorem Held.rd {w : World} {g : Nat} {cur : List UInt8} (h : Held w g cur) {B n : Nat} (hg : g < B) (hn : cur.length = n) : Rd w B (some ⟨g, 0, none⟩) n cur :=
  ⟨hn, fun _ => ⟨g, 0, rfl, hg, fun j x hx => by rw [Nat.zero_add]; exact (h j x hx).1⟩⟩

theorem own_form {w : World} {base : Nat} {v : Value} {xs : List UInt8} {n : Nat} (h : Own8 w base v ([] ++ xs)) (hn : xs.length = n) (h0 : 0 < n) :
    ∃ g c, v = .slice (some ⟨g, 0, none⟩) n c ∧ n ≤ c ∧ c ≤ maxLen ∧ base ≤ g ∧ g < w.heap.size ∧ Held w g xs := by
  rw [List.nil_append] at h
  subst hn
  obtain ⟨A2, c2, rfl, hmc2, hcm2, hr2, hgg⟩ := h.rd
  obtain ⟨g, rfl, hbg⟩ := hgg h0
  obtain ⟨b, off, e, hglt⟩ := hr2.addr h0
  cases e
  refine ⟨g, c2, rfl, hmc2, hcm2, hbg, hglt, fun j y hy => ?_⟩
  obtain ⟨b, off, e, _, hc⟩ := hr2.2 h0
  cases e
  have := hc j y hy
  rw [Nat.zero_add] at this
  exact ⟨this, h.frozen j⟩

set_option maxRecDepth 100000 in
set_option maxHeartbeats 4000000 in
theorem crcBurst_walk (A : Option Addr) (len cap : Nat) (xs : List UInt8) (_hcap : len ≤ cap) (_hcm : cap ≤ maxLen) (at_ : Nat) (hat : at_ < 65536) (t : Nat) (ht : t < 4294967296) (w : World) (hI : Rd w w.heap.size A len xs) :
    Calls Try.prog 6 #[.slice A len cap, .int .u16 (at_ : Int), .int .u32 (t : Int)] w fun e W' => e = .returned (.bool true) ∧ Below w.heap.size w W' := by
  by_cases hla : len ≤ 500
  · have hla' : decide ((500 : Int) < (len : Int)) = false := decide_eq_false (by omega)
    by_cases hlb : 4 ≤ len
    · have hlb' : decide ((len : Int) < 4) = false := decide_eq_false (by omega)
      by_cases h0 : t = 0
      · subst h0
        go_enter Try.func6, Try.ntmps6
        go_wp2_with fail
        refine (awake_any _).mono ?_
        rintro e w1 ⟨rfl, hb1⟩
        go_wp2_with fail
        refine (awake_any _).mono ?_
        rintro e w2 ⟨rfl, hb2⟩
        have B2 := hb1.trans (hb2.mono hb1.size)
        go_wp2_with fail
        go_ret
        exact ⟨rfl, B2⟩
      · have h0' : ((t : Int) == 0) = false := beq_eq_false_iff_ne.2 (by omega)
        have h0'' : (t == 0) = false := beq_eq_false_iff_ne.2 h0
        have HL := Lib.hid hI.len
        go_enter Try.func6, Try.ntmps6
        go_wp2_with fail
        refine (awake_any _).mono ?_
        rintro e w1 ⟨rfl, hb1⟩
        have z1 := hb1.size
        have hI1 := (hI.below hb1).more z1
        have how0 := (show Row8 (w1.alloc (.cells #[] 5)) w1.heap.size [] from heap_alloc_new w1 _).own (base := w1.heap.size) (Nat.le_refl _) (Nat.le_refl _) (by unfold maxLen; simp)
        have hd0 : (8 * (len : Int) - 31 == 0) = false := beq_eq_false_iff_ne.2 (by omega)
        have hd1 : (0 : Int) < 8 * (len : Int) - 31 := by omega
        go_wp2_with (at_builtin; refine wpList_append8 rfl _ _ rfl w1.heap.size _ [] (by rfl) how0 _ _ _ _ xs (by rfl) (hI1.alloc (Nat.le_refl _) _) (by simp; omega) (by simp) ?_; intro v2 w2 ho2 hg2 _; have hb2 := ((Below.refl w1.heap.size w1).alloc (Nat.le_refl _) (.cells #[] 5)).grown hg2 (by simp) how0.lt; obtain ⟨g, c2, rfl, hmc2, hcm2, hbg, hglt, hH2⟩ := own_form ho2 HL.out (by omega); clear ho2 hg2)
        have B2 := hb1.trans (hb2.mono z1)
        have hbs : w.heap.size ≤ g := by omega
        clear how0 hI1 hb2 hb1 z1
        obtain ⟨K, hK, hKl⟩ : ∃ K : Nat, (at_ : Int) % (8 * (len : Int) - 31) = (K : Int) ∧ K + 32 ≤ 8 * len := by
          have e1 := Int.emod_nonneg (at_ : Int) (b := 8 * (len : Int) - 31) (by omega)
          have e2 := Int.emod_lt_of_pos (at_ : Int) hd1
          exact ⟨((at_ : Int) % (8 * (len : Int) - 31)).toNat, by omega, by omega⟩
        rw [hK]
        clear hK hd0 hd1
        obtain ⟨L, hL⟩ : ∃ L, leOf xs = L := ⟨_, rfl⟩
        have KL := Lib.hid hL
        clear hL
        go_loopw [9] (fun i wr => ∃ (j : Nat) (cur : List UInt8), j ≤ 32 ∧ i = .int .i64 (j : Int) ∧ w2.grownBy wr (some g) ∧ Held wr g cur ∧ cur.length = len ∧ leOf cur = L ^^^ t % 2 ^ j * 2 ^ K)
          (fun i _ => 32 - (intOf i).toNat)
        case atStart => exact ⟨0, xs, by omega, rfl, World.grownBy.refl _ _, hH2, HL.out, by rw [KL.out, Nat.pow_zero, Nat.mod_one, Nat.zero_mul, Nat.xor_zero]⟩
        case round =>
          obtain ⟨j, cur, hj, rfl, hgr, hH, hcl, hle⟩ := hrel
          have HC := Lib.hid hcl
          by_cases hlt : j < 32
          · have hlt' : (j : Int) < 32 := by omega
            have hbit := bit_w t j ht
            rcases Nat.mod_two_eq_zero_or_one (t / 2 ^ j) with hz | hz
            · rw [hz] at hbit
              have HE := Lib.hid (burst_same hle hz)
              clear hz hle hcl
              go_wp2_with fail
              go_roundw
              case rel => exact ⟨j + 1, cur, by omega, by go_num, hgr, hH, HC.out, HE.out⟩
              case measure => simp [intOf]; omega
            · rw [hz] at hbit
              have hil : (K + j) / 8 < len := by omega
              obtain ⟨y, hy⟩ : ∃ y, cur[(K + j) / 8]? = some y := ⟨_, List.getElem?_eq_getElem (by rw [hcl]; exact hil)⟩
              have hmore := burst_more hle hz hy
              obtain ⟨hc, hf⟩ := hH _ y hy
              unfold v8 at hc
              have hsl := shl8 ((K + j) % 8) (by omega)
              obtain ⟨m, hm⟩ : ∃ m, UInt8.ofNat (2 ^ ((K + j) % 8)) = m := ⟨_, rfl⟩
              rw [hm] at hsl hmore
              have hx8 := xor8 y m
              obtain ⟨y', hy'⟩ : ∃ y', y ^^^ m = y' := ⟨_, rfl⟩
              rw [hy'] at hx8 hmore
              have KH := Lib.hid (hH.set hy y')
              have KG := Lib.hid (grownBy_set hgr ((K + j) / 8) (.int .u8 (y'.toNat : Int)))
              have HE := Lib.hid hmore
              have hl2 : (cur.set ((K + j) / 8) y').length = len := by rw [List.length_set]; exact hcl
              have HL2 := Lib.hid hl2
              have i0 : (0 : Int) ≤ ((K : Int) + (j : Int)) / 8 := by omega
              have i1 : ((K : Int) + (j : Int)) / 8 < (len : Int) := by omega
              clear hz hle hcl hy hm hy' hmore hl2 hgr hH
              go_wp2_with fail
              go_roundw
              case rel => exact ⟨j + 1, cur.set ((K + j) / 8) y', by omega, by go_num, KG.out, KH.out, HL2.out, HE.out⟩
              case measure => simp [intOf]; omega
          · obtain rfl : j = 32 := by omega
            rw [Nat.mod_eq_of_lt (by omega)] at hle
            have hrd := hH.rd (B := wr.heap.size) (by have := hgr.size; omega) hcl
            have hBr : Below w.heap.size w wr := B2.grown hgr B2.size (fun g' e => by cases e; exact hbs)
            rw [← KL.out] at hle
            have hne := sum_burst xs cur K t (by rw [hcl, HL.out]) (by rw [HL.out]; omega) ht (by omega) hle
            have hnt := text_burst xs cur K t (by omega) hle
            obtain ⟨S, hs⟩ : ∃ S, sumOn 0 xs = S := ⟨_, rfl⟩
            obtain ⟨U, hu⟩ : ∃ U, sumOn 0 cur = U := ⟨_, rfl⟩
            rw [hs, hu] at hne
            have hne1 : ((U : Int) == (S : Int)) = false := beq_eq_false_iff_ne.2 (by omega)
            have hne2 : ((U : Int) != (S : Int)) = true := bne_iff_ne.2 (by omega)
            have hne3 : decide (U = S) = false := decide_eq_false hne
            have hne4 : (U == S) = false := beq_eq_false_iff_ne.2 hne
            have hne5 : (U != S) = true := bne_iff_ne.2 hne
            have KS := Lib.hid hs
            have KU := Lib.hid hu
            have KT := Lib.hid hnt
            have zr := hBr.size
            clear hs hu hle hH hgr hne hnt hH2 B2 hcl
            go_wp2_with fail
            refine (of_any _ len c2 _ (by omega) wr hrd (Nat.le_refl _)).mono ?_
            rintro e w5 ⟨rfl, hb5⟩
            rw [KU.out]
            have B5 := hBr.trans (hb5.mono zr)
            have hI5 := hI.below B5
            have hr5 := hrd.below hb5
            have z5 := B5.size
            have y5 := hb5.size
            go_wp2_with fail
            refine (of_any A len cap _ (by omega) w5 hI5 z5).mono ?_
            rintro e w6 ⟨rfl, hb6⟩
            rw [KS.out]
            have B6 := B5.trans (hb6.mono z5)
            have hr6 := hr5.below (hb6.mono y5)
            have hI6 := hI.below B6
            go_wp2_with fail
            refine (differ_any w6 _ _ hr6 hI6 KT.out).mono ?_
            rintro e w7 ⟨rfl, rfl⟩
            go_wp2_with fail
            go_ret
            exact ⟨rfl, B6⟩
    · have hlb' : (len : Int) < 4 := by omega
      go_enter Try.func6, Try.ntmps6
      go_wp2_with fail
      refine (awake_any _).mono ?_
      rintro e w1 ⟨rfl, hb1⟩
      go_wp2_with fail
      refine (awake_any _).mono ?_
      rintro e w2 ⟨rfl, hb2⟩
      have B2 := hb1.trans (hb2.mono hb1.size)
      go_wp2_with fail
      go_ret
      exact ⟨rfl, B2⟩
  · have hla' : (500 : Int) < (len : Int) := by omega
    go_enter Try.func6, Try.ntmps6
    go_wp2_with fail
    refine (awake_any _).mono ?_
    rintro e w1 ⟨rfl, hb1⟩
    go_wp2_with fail
    refine (awake_any _).mono ?_
    rintro e w2 ⟨rfl, hb2⟩
    have B2 := hb1.trans (hb2.mono hb1.size)
    go_wp2_with fail
    go_ret
    exact ⟨rfl, B2⟩

theorem crcBurst_walks : WalksTrue 6 Try.f6 := by
  intro H enc W base args ds p hval hA
  rw [Try.params6] at hA hval
  obtain ⟨v0, vs0, d0, ds0, p0, q0, hargs, rfl, rfl, h0, r0⟩ := trodAll_cons hA
  obtain ⟨v1, vs1, d1, ds1, p1, q1, rfl, rfl, rfl, h1, r1⟩ := trodAll_cons r0
  obtain ⟨v2, vs2, d2, ds2, p2, q2, rfl, rfl, rfl, h2, r2⟩ := trodAll_cons r1
  obtain ⟨rfl, rfl, rfl⟩ := trodAll_nil r2
  obtain rfl : args = #[v0, v1, v2] := by cases args; simp_all
  obtain ⟨A0, len0, cap0, xs0, rfl, hc0, hm0, hI0⟩ := open_bytes (hval 0 22 v0 rfl rfl) h0
  obtain ⟨a1, rfl, rfl, rfl, w1⟩ := open_int Try.underlying30 (hval 1 30 v1 rfl rfl) h1
  obtain ⟨g1a, g1b⟩ := range_u16 w1
  obtain ⟨n1, rfl⟩ := Int.eq_ofNat_of_zero_le g1a
  obtain ⟨a2, rfl, rfl, rfl, w2⟩ := open_int Try.underlying23 (hval 2 23 v2 rfl rfl) h2
  obtain ⟨g2a, g2b⟩ := range_u32 w2
  obtain ⟨n2, rfl⟩ := Int.eq_ofNat_of_zero_le g2a
  exact crcBurst_walk A0 len0 cap0 xs0 hc0 hm0 n1 (by omega) n2 (by omega) W hI0

theorem crcBurst_said : Rows.CrcBurstSaid :=
  OpenClaim.holds_of_wide 6 Try.f6 rfl rfl rfl rfl rfl rfl rfl ⟨rfl, rfl, rfl, rfl, rfl⟩ rfl rfl rfl rfl rfl (by kernel_rfl) Try.func6 (by kernel_rfl)
    (of_decide_eq_true (by kernel_rfl)) (by unfold Func.isWrapper; first | (rw [if_pos (by decide +kernel)]; kernel_rfl) | (rw [if_neg (by decide +kernel)]; exact ⟨rfl, rfl⟩))
    (fun os started H enc _ => law_lift (s := Rows.crcBurstSpec) Try.func6 (by kernel_rfl) rfl rfl (by intro H ds hd; match ds, hd with | [_, _, _], _ => exact ⟨rfl, rfl, rfl⟩) (by kernel_rfl) crcBurst_walks os started H enc
      (ChangeSpec.witness6 (enc := enc) (C := Try.checked) false ⟨#[], #[.slice none 0 0, .int .u16 0, .int .u32 0], []⟩ 8 (by kernel_rfl) (by kernel_rfl) (by kernel_rfl) (by kernel_rfl)))

end Go.Proofs.Ytboaoidimbkidaa
