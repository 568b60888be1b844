/-
  PROVED HERE: 'RecordBurstSaid': whatever body, at and turn are, the Go function RecordBurst of package wayleavelaw05 returns true, and its arguments read behind the call as they read before. No condition.
-/
import Derived.Test.YtaabfhfiipmhcaaROpen
namespace Go.Proofs.Ytaabfhfiipmhcaa
open Go.RowKit Go.Lib Go.ChangeShapes Go.WideShapes Go.ChangeAt

theorem grownBy_set {a w : World} {g : Nat} (h : a.grownBy w (some g)) (k : Nat) (u : Value) : a.grownBy (w.setCell ⟨g, k, none⟩ u) (some g) :=
  ⟨h.os, h.tape, h.output, by simpa [World.setCell] using h.size, fun i hi hne => (Below.heap_setCell w ⟨g, k, none⟩ u i (fun e => hne (by rw [e]))).trans (h.block i hi hne)⟩
theorem Own8.frozen {w : World} {base g n c : Nat} {xs : List UInt8} (h : Own8 w base (.slice (some ⟨g, 0, none⟩) n c) xs) (j : Nat) : w.frozen? ⟨g, j, none⟩ = false := by
  rcases h.2 with ⟨e, _⟩ | ⟨g', cap', cur, e, _, hg, _⟩
  · cases e
  · cases e
    exact frozen_of_row w g j cur _ hg
theorem xor8 (x y : UInt8) : bits .xor .u8 (x.toNat : Int) (y.toNat : Int) = ((x ^^^ y).toNat : Int) := by
  rw [u8_xor_nat _ _ x.toNat_lt y.toNat_lt, UInt8.toNat_xor]
theorem shl8 (r : Nat) (h : r < 8) : (2 : Int) ^ r % 256 = ((UInt8.ofNat (2 ^ r)).toNat : Int) := by
  have hp : (2 : Nat) ^ r < 2 ^ 8 := Nat.pow_lt_pow_right (by decide) h
  have he : ((2 ^ r : Nat) : Int) = (2 : Int) ^ r := by rw [Int.natCast_pow]; rfl
  rw [← he, UInt8.toNat_ofNat']
  generalize 2 ^ r = p at hp
  omega
theorem mul_xor_pow (a b k : Nat) : (a ^^^ b) * 2 ^ k = a * 2 ^ k ^^^ b * 2 ^ k := by
  apply Nat.eq_of_testBit_eq
  intro i
  simp only [Nat.testBit_xor, Nat.testBit_mul_two_pow]
  by_cases h : k ≤ i <;> simp [h]
theorem burst_same {L t j K c : Nat} (h : c = L ^^^ t % 2 ^ j * 2 ^ K) (hb : t / 2 ^ j % 2 = 0) : c = L ^^^ t % 2 ^ (j + 1) * 2 ^ K := by
  rw [bit_more, hb, Nat.zero_mul, Nat.xor_zero]; exact h
theorem burst_more {L t j K : Nat} {cur : List UInt8} {y : UInt8} (h : leOf cur = L ^^^ t % 2 ^ j * 2 ^ K) (hb : t / 2 ^ j % 2 = 1) (hy : cur[(K + j) / 8]? = some y) :
    leOf (cur.set ((K + j) / 8) (y ^^^ UInt8.ofNat (2 ^ ((K + j) % 8)))) = L ^^^ t % 2 ^ (j + 1) * 2 ^ K := by
  rw [leOf_set _ _ _ _ hy (by omega), show 8 * ((K + j) / 8) + (K + j) % 8 = j + K by omega, h, bit_more, hb, Nat.one_mul, mul_xor_pow, Nat.pow_add, Nat.xor_assoc]

/-- The cells of block g, from its head on, are just the bytes cur, and may be written. -/
def Held (w : World) (g : Nat) (cur : List UInt8) : Prop := ∀ j y, cur[j]? = some y → w.cell? ⟨g, j, none⟩ = some (v8 y) ∧ w.frozen? ⟨g, j, none⟩ = false
theorem Held.set {w : World} {g : Nat} {cur : List UInt8} (h : Held w g cur) {k : Nat} {x : UInt8} (hx : cur[k]? = some x) (y : UInt8) : Held (w.setCell ⟨g, k, none⟩ (.int .u8 (y.toNat : Int))) g (cur.set k y) := by
  intro j z hz
  rw [World.frozen?_setCell]
  have hk : k < cur.length := (List.getElem?_eq_some_iff.1 hx).1
  rw [List.getElem?_set] at hz
  by_cases e : k = j
  · subst e
    simp [hk] at hz
    subst hz
    exact ⟨World.cell?_setCell_same _ _ _ (h k x hx).1, (h k x hx).2⟩
  · rw [if_neg e] at hz
    rw [World.cell?_setCell_other _ _ _ _ (by intro e'; cases e'; exact e rfl)]
    exact h j z hz
theorem Held.rd {w : World} {g : Nat} {cur : List UInt8} (h : Held w g cur) {B n : Nat} (hg : g < B) (hn : cur.length = n) : Rd w B (some ⟨g, 0, none⟩) n cur :=
  ⟨hn, fun _ => ⟨g, 0, rfl, hg, fun j x hx => by rw [Nat.zero_add]; exact (h j x hx).1⟩⟩

theorem bit_w (n k : Nat) (h : n < 4294967296) : bits .and .u32 ((n : Int) / 2 ^ k) 1 = ((n / 2 ^ k % 2 : Nat) : Int) := by
  have e : (n : Int) / 2 ^ k = ((n / 2 ^ k : Nat) : Int) := by rw [Int.natCast_ediv, Int.natCast_pow]; rfl
  rw [e]
  exact and1_w _ (Nat.lt_of_le_of_lt (Nat.div_le_self _ _) h)
theorem set_mid (a b c : List UInt8) (m : Nat) (y : UInt8) (h : m < b.length) : (a ++ b ++ c).set (a.length + m) y = a ++ b.set m y ++ c := by
  rw [List.set_append_left _ _ (by rw [List.length_append]; omega), List.set_append_right _ _ (by omega)]
  congr 3
  omega
theorem get_mid (a b c : List UInt8) (m : Nat) (h : m < b.length) : (a ++ b ++ c)[a.length + m]? = b[m]? := by
  rw [List.getElem?_append_left (by rw [List.length_append]; omega), List.getElem?_append_right (by omega)]
  congr 1
  omega

set_option maxRecDepth 100000 in
set_option maxHeartbeats 4000000 in
theorem recordBurst_walk (A : Option Addr) (len cap : Nat) (xs : List UInt8) (hcap : len ≤ cap) (hcm : cap ≤ maxLen) (at_ : Nat) (hat : at_ < 65536) (t : Nat) (ht : t < 4294967296) (w : World) (hI : Rd w w.heap.size A len xs) :
    Calls Try.prog 7 #[.slice A len cap, .int .u16 (at_ : Int), .int .u32 (t : Int)] w fun e W' => e = .returned (.bool true) ∧ Below w.heap.size w W' := by
  by_cases hbad : len < 4 ∨ 500 < len ∨ t = 0
  · have hb : (decide ((len : Int) < 4) = true) ∨ (decide ((len : Int) < 4) = false ∧ decide ((500 : Int) < (len : Int)) = true) ∨ (decide ((len : Int) < 4) = false ∧ decide ((500 : Int) < (len : Int)) = false ∧ t = 0) := by
      by_cases h1 : len < 4
      · exact .inl (decide_eq_true (by omega))
      · by_cases h2 : 500 < len
        · exact .inr (.inl ⟨decide_eq_false (by omega), decide_eq_true (by omega)⟩)
        · exact .inr (.inr ⟨decide_eq_false (by omega), decide_eq_false (by omega), by omega⟩)
    clear hbad
    rcases hb with h1 | ⟨h1, h2⟩ | ⟨h1, h2, rfl⟩
    all_goals
      go_enter Try.func7, Try.ntmps7
      go_wp2_with fail
      refine (awake_any _).mono ?_
      rintro e w1 ⟨rfl, hb1⟩
      go_wp2_with fail
      refine (awake_any _).mono ?_
      rintro e w2 ⟨rfl, hb2⟩
      have B2 := hb1.trans (hb2.mono hb1.size)
      go_wp2_with fail
      go_ret
      exact ⟨rfl, B2⟩
  · have h1 : decide ((len : Int) < 4) = false := decide_eq_false (by omega)
    have h2 : decide ((500 : Int) < (len : Int)) = false := decide_eq_false (by omega)
    have h0' : ((t : Int) == 0) = false := beq_eq_false_iff_ne.2 (by omega)
    have h0'' : (t == 0) = false := beq_eq_false_iff_ne.2 (by omega)
    have hxl := hI.len
    have hrl := recOf_len xs
    have hrec : recOf xs = uvarint xs.length ++ xs ++ tailOf (headOf xs) := by rw [recOf, headOf]
    have h10 := uvarint_max (n := len) (by omega)
    have hburst := fun ys K (a1 : ys.length = xs.length) (a2 : K + 32 ≤ 8 * xs.length) a3 => next_burst xs ys K t (by omega) a1 a2 ht (by omega) a3
    rw [hxl] at hrl hrec hburst
    have htl := tailOf_len (headOf xs)
    have HP := Lib.hid (fun W h => rput_at A len cap xs (by omega) hcap hcm _ hrl W h)
    have HZ := Lib.hid (fun W => rsize_any len (by omega) W)
    obtain ⟨T, hT⟩ : ∃ T, tailOf (headOf xs) = T := ⟨_, rfl⟩
    obtain ⟨V, hV⟩ : ∃ V, uvarint len = V := ⟨_, rfl⟩
    rw [hT, hV] at hrec hburst
    rw [hT] at htl
    rw [hV] at HP HZ h10
    rw [hrec] at HP
    obtain ⟨N, hN⟩ : ∃ N, V.length + len + 4 = N := ⟨_, rfl⟩
    rw [hN] at HP HZ
    have hHd : (N : Int) - 4 - (len : Int) = (V.length : Int) := by omega
    have hNb : N ≤ 507 := by omega
    have HNN := Lib.hid hN
    have HX := Lib.hid hxl
    have HT := Lib.hid htl
    have HBu := Lib.hid hburst
    have hlen4 : 4 ≤ len ∧ len ≤ 500 := by omega
    have hd0 : (8 * (len : Int) - 31 == 0) = false := beq_eq_false_iff_ne.2 (by omega)
    have hd1 : (0 : Int) < 8 * (len : Int) - 31 := by omega
    obtain ⟨K, hK, hKl⟩ : ∃ K : Nat, (at_ : Int) % (8 * (len : Int) - 31) = (K : Int) ∧ K + 32 ≤ 8 * len := by
      have e1 := Int.emod_nonneg (at_ : Int) (b := 8 * (len : Int) - 31) (by omega)
      have e2 := Int.emod_lt_of_pos (at_ : Int) hd1
      exact ⟨((at_ : Int) % (8 * (len : Int) - 31)).toNat, by omega, by omega⟩
    obtain ⟨L, hL⟩ : ∃ L, leOf xs = L := ⟨_, rfl⟩
    rw [hL] at HBu
    have KL := Lib.hid hL
    have e1 : ((N : Int) != (N : Int)) = false := by simp
    have e2 : (N != N) = false := by simp
    have HL := Lib.hid hlen4
    clear hbad hxl hrl hrec hburst htl hT hV hN hL hlen4
    go_enter Try.func7, Try.ntmps7
    go_wp2_with fail
    refine (awake_any _).mono ?_
    rintro e w1 ⟨rfl, hb1⟩
    have z1 := hb1.size
    go_wp2_with fail
    refine (HP.out _ ((hI.below hb1).more z1)).mono ?_
    rintro e w2 ⟨g, c2, rfl, ho2, hmc2, hcm2, hg2, hr2, hb2⟩
    have B2 := hb1.trans (hb2.mono z1)
    have z2 := B2.size
    have hgl : g < w2.heap.size := by
      obtain ⟨b, off, e, hlt⟩ := hr2.addr (by omega)
      cases e
      exact hlt
    have hH2 : Held w2 g (V ++ xs ++ T) := fun j y hy => by
      obtain ⟨b, off, e, _, hc⟩ := hr2.2 (by omega)
      cases e
      have := hc j y hy
      rw [Nat.zero_add] at this
      exact ⟨this, ho2.frozen j⟩
    clear ho2 hr2 hb1 hb2
    go_wp2_with fail
    refine (HZ.out _).mono ?_
    rintro e w3 ⟨rfl, rfl⟩
    go_wp2_with fail
    rw [hK]
    clear hK hd0 hd1 hHd
    go_loopw [11] (fun i wr => ∃ (j : Nat) (ys : List UInt8), j ≤ 32 ∧ i = .int .i64 (j : Int) ∧ w2.grownBy wr (some g) ∧ Held wr g (V ++ ys ++ T) ∧ ys.length = len ∧ leOf ys = L ^^^ t % 2 ^ j * 2 ^ K)
      (fun i _ => 32 - (intOf i).toNat)
    case atStart => exact ⟨0, xs, by omega, rfl, World.grownBy.refl _ _, hH2, HX.out, by rw [KL.out, Nat.pow_zero, Nat.mod_one, Nat.zero_mul, Nat.xor_zero]⟩
    case round =>
      obtain ⟨j, ys, hj, rfl, hgr, hH, hcl, hle⟩ := hrel
      have HC := Lib.hid hcl
      by_cases hlt : j < 32
      · have hlt' : (j : Int) < 32 := by omega
        have hbit := bit_w t j ht
        rcases Nat.mod_two_eq_zero_or_one (t / 2 ^ j) with hz | hz
        · rw [hz] at hbit
          have HE := Lib.hid (burst_same hle hz)
          clear hz hle hcl
          go_wp2_with fail
          go_roundw
          case rel => exact ⟨j + 1, ys, by omega, by go_num, hgr, hH, HC.out, HE.out⟩
          case measure => simp [intOf]; omega
        · rw [hz] at hbit
          have hil : (K + j) / 8 < ys.length := by omega
          obtain ⟨y, hy⟩ : ∃ y, ys[(K + j) / 8]? = some y := ⟨_, List.getElem?_eq_getElem hil⟩
          have hmore := burst_more hle hz hy
          have hyy : (V ++ ys ++ T)[V.length + (K + j) / 8]? = some y := (get_mid V ys T _ hil).trans hy
          obtain ⟨hc, hf⟩ := hH _ y hyy
          unfold v8 at hc
          have hsl := shl8 ((K + j) % 8) (by omega)
          obtain ⟨m, hm⟩ : ∃ m, UInt8.ofNat (2 ^ ((K + j) % 8)) = m := ⟨_, rfl⟩
          rw [hm] at hsl hmore
          have hx8 := xor8 y m
          obtain ⟨y', hy'⟩ : ∃ y', y ^^^ m = y' := ⟨_, rfl⟩
          rw [hy'] at hx8 hmore
          have KH := Lib.hid (set_mid V ys T _ y' hil ▸ hH.set hyy y')
          have KG := Lib.hid (grownBy_set hgr (V.length + (K + j) / 8) (.int .u8 (y'.toNat : Int)))
          have HE := Lib.hid hmore
          have hl2 : (ys.set ((K + j) / 8) y').length = len := by rw [List.length_set]; exact hcl
          have HL2 := Lib.hid hl2
          have hNN := HNN.out
          have i0 : (0 : Int) ≤ (V.length : Int) + ((K : Int) + (j : Int)) / 8 := by omega
          have i1 : (V.length : Int) + ((K : Int) + (j : Int)) / 8 < (N : Int) := by omega
          clear hz hle hcl hy hm hy' hmore hl2 hgr hH hyy hil hNN
          go_wp2_with fail
          go_roundw
          case rel => exact ⟨j + 1, ys.set ((K + j) / 8) y', by omega, by go_num, KG.out, KH.out, HL2.out, HE.out⟩
          case measure => simp [intOf]; omega
      · obtain rfl : j = 32 := by omega
        rw [Nat.mod_eq_of_lt (by omega)] at hle
        have hnx := HBu.out ys K hcl (by omega) hle
        have hNN := HNN.out
        have hcur : (V ++ ys ++ T).length = N := by rw [List.length_append, List.length_append, HT.out, hcl]; omega
        have hrd := hH.rd (B := wr.heap.size) (by have := hgr.size; omega) hcur
        have hBr : Below w.heap.size w wr := B2.grown hgr B2.size (fun g' e => by cases e; omega)
        have HNx := Lib.hid hnx
        have zr := hBr.size
        clear hnx hNN hcur hle hH hgr hcl hH2
        go_wp2_with fail
        refine (next_at _ N c2 _ (by omega) hmc2 hcm2 _ HNx.out 0 rfl wr hrd).mono ?_
        rintro e w5 ⟨A5, c5, rfl, _, hb5⟩
        have B5 := hBr.trans (hb5.mono zr)
        go_wp2_with fail
        go_ret
        exact ⟨rfl, B5⟩

theorem recordBurst_walks : WalksTrue 7 Try.f7 := by
  intro H enc W base args ds p hval hA
  rw [Try.params7] at hA hval
  obtain ⟨v0, vs0, d0, ds0, p0, q0, hargs, rfl, rfl, h0, r0⟩ := trodAll_cons hA
  obtain ⟨v1, vs1, d1, ds1, p1, q1, rfl, rfl, rfl, h1, r1⟩ := trodAll_cons r0
  obtain ⟨v2, vs2, d2, ds2, p2, q2, rfl, rfl, rfl, h2, r2⟩ := trodAll_cons r1
  obtain ⟨rfl, rfl, rfl⟩ := trodAll_nil r2
  obtain rfl : args = #[v0, v1, v2] := by cases args; simp_all
  obtain ⟨A0, len0, cap0, xs0, rfl, hc0, hm0, hI0⟩ := open_bytes (hval 0 22 v0 rfl rfl) h0
  obtain ⟨a1, rfl, rfl, rfl, w1⟩ := open_int Try.underlying43 (hval 1 43 v1 rfl rfl) h1
  obtain ⟨g1a, g1b⟩ := range_u16 w1
  obtain ⟨n1, rfl⟩ := Int.eq_ofNat_of_zero_le g1a
  obtain ⟨a2, rfl, rfl, rfl, w2⟩ := open_int Try.underlying46 (hval 2 46 v2 rfl rfl) h2
  obtain ⟨g2a, g2b⟩ := range_u32 w2
  obtain ⟨n2, rfl⟩ := Int.eq_ofNat_of_zero_le g2a
  exact recordBurst_walk A0 len0 cap0 xs0 hc0 hm0 n1 (by omega) n2 (by omega) W hI0

theorem recordBurst_said : Rows.RecordBurstSaid :=
  OpenClaim.holds_of_wide 7 Try.f7 rfl rfl rfl rfl rfl rfl rfl ⟨rfl, rfl, rfl, rfl, rfl⟩ rfl rfl rfl rfl rfl (by kernel_rfl) Try.func7 (by kernel_rfl)
    (of_decide_eq_true (by kernel_rfl)) (by unfold Func.isWrapper; first | (rw [if_pos (by decide +kernel)]; kernel_rfl) | (rw [if_neg (by decide +kernel)]; exact ⟨rfl, rfl⟩))
    (fun os started H enc _ => law_lift (s := Rows.recordBurstSpec) Try.func7 (by kernel_rfl) rfl rfl (by intro H ds hd; match ds, hd with | [_, _, _], _ => exact ⟨rfl, rfl, rfl⟩) (by kernel_rfl) recordBurst_walks os started H enc
      (ChangeSpec.witness6 (enc := enc) (C := Try.checked) false ⟨#[], #[.slice none 0 0, .int .u16 0, .int .u32 0], []⟩ 8 (by kernel_rfl) (by kernel_rfl) (by kernel_rfl) (by kernel_rfl)))

end Go.Proofs.Ytaabfhfiipmhcaa
