/-
  The document's Quanta.
-/
import Derived.Test.YtajmppaodhpmgaaWR
import Derived.Deep.DeepCutAuto
namespace Go.Proofs.Ytajmppaodhpmgaa
set_option maxRecDepth 100000
open Go.RowKit Go.Lib

set_option maxHeartbeats 2000000 in
theorem rqu_low {u : Nat} (hu : u < T64) (hz : ¬ (exW u = 0 ∧ frW u = 0)) (hn : ngW u = false) (hx : exW u ≤ 1032) (w : World) :
    Calls Try.prog 25 #[.float .f64 u] w fun e w' => e = .returned (.tuple #[.int .i64 (quW u : Int), .bool (wtW u)]) ∧ w = w' := by
  have hP := rparts_any hu w
  have hw := ref_wt hx hn
  have hml := ma_lt u
  have hq := fun h => ref_qu hx h
  have hM : maW u = if exW u = 0 then frW u else frW u + 4503599627370496 := rfl
  have hL : loW u = if exW u = 0 then 1074 else 1075 - exW u := rfl
  have hfl : frW u < 4503599627370496 := fr_lt u
  obtain ⟨x, hxe⟩ : ∃ x, exW u = x := ⟨_, rfl⟩
  obtain ⟨f, hfe⟩ : ∃ f, frW u = f := ⟨_, rfl⟩
  obtain ⟨M, hMe⟩ : ∃ M, maW u = M := ⟨_, rfl⟩
  obtain ⟨l, hle⟩ : ∃ l, loW u = l := ⟨_, rfl⟩
  obtain ⟨q, hqe⟩ : ∃ q, quW u = q := ⟨_, rfl⟩
  obtain ⟨b, hbe⟩ : ∃ b, wtW u = b := ⟨_, rfl⟩
  have hno : b = false → q = 0 := fun h => by rw [← hqe]; unfold quW; rw [if_neg (by rw [hbe, h]; decide)]
  rw [hxe, hfe, hn] at hP
  rw [hxe, hfe] at hz hM
  rw [hxe] at hL
  rw [hfe] at hfl
  rw [hMe, hle, hbe] at hw
  rw [hbe, hqe, hMe, hle] at hq
  rw [hxe] at hx
  rw [hMe] at hM hml
  rw [hle] at hL
  rw [hqe, hbe]
  clear hxe hfe hMe hle hqe hbe hu hn
  have HP := Lib.hid hP
  by_cases h0 : x = 0
  · subst h0
    rw [if_pos rfl] at hM hL
    obtain rfl : f = M := hM.symm
    have hf0 : f ≠ 0 := fun h => hz ⟨rfl, h⟩
    have b1 : ((f : Int) == 0) = false := beq_eq_false_iff_ne.2 (by omega)
    have b2 : (f == 0) = false := beq_eq_false_iff_ne.2 hf0
    have hb : b = true := by rw [hw]; exact decide_eq_true (by have h2 : (2 : Nat) ^ 53 ≤ 2 ^ l := Nat.pow_le_pow_right (by decide) (by omega); exact Nat.le_trans (Nat.le_of_lt hml) (Nat.le_trans h2 (Nat.le_mul_of_pos_left _ (by decide))))
    have hq0 : q = 0 := by
      rw [hq hb]
      have h2 : (2 : Nat) ^ 53 ≤ 2 ^ (l - 10) := Nat.pow_le_pow_right (by decide) (by omega)
      exact Nat.div_eq_of_lt (Nat.lt_of_lt_of_le hml h2)
    subst hb hq0
    clear hw hq hno hml hf0 hz hP hL
    go_enter Try.func25, Try.ntmps25
    go_wp2_with fail
    refine HP.out.mono ?_
    rintro e w' ⟨rfl, rfl⟩
    go_wp2_with fail
    go_ret2
    exact ⟨rfl, rfl⟩
  · rw [if_neg h0] at hM hL
    have b1 : ((x : Int) == 0) = false := beq_eq_false_iff_ne.2 (by omega)
    have b2 : (x == 0) = false := beq_eq_false_iff_ne.2 h0
    have b3 : (0 : Int) < (x : Int) := by omega
    have b4 : ((x : Int) == 2047) = false := beq_eq_false_iff_ne.2 (by omega)
    have b5 : (x == 2047) = false := beq_eq_false_iff_ne.2 (by omega)
    have b6 : ¬ (1033 : Int) ≤ (x : Int) := by omega
    have b6' : decide ((1033 : Int) ≤ (x : Int)) = false := decide_eq_false b6
    have b3' : decide ((0 : Int) < (x : Int)) = true := decide_eq_true b3
    have w1 : IntKind.u64.wrap ((f : Int) + 4503599627370496) = (M : Int) := by rw [IntKind.wrap_u64]; omega
    have w2 : IntKind.i64.wrap (1075 - (x : Int)) = (l : Int) := by rw [IntKind.wrap_i64]; omega
    have w3 : IntKind.u64.wrap (l : Int) = (l : Int) := by rw [IntKind.wrap_u64]; omega
    have hl43 : 43 ≤ l ∧ l ≤ 1074 := by omega
    obtain ⟨l2, hl2⟩ : ∃ l2, l - 10 = l2 := ⟨_, rfl⟩
    rw [hl2] at hq
    have w4 : IntKind.i64.wrap ((l : Int) - 10) = (l2 : Int) := by rw [IntKind.wrap_i64]; omega
    have w5 : IntKind.u64.wrap (l2 : Int) = (l2 : Int) := by rw [IntKind.wrap_u64]; omega
    have hmn : M / 2 ^ l2 ≤ M := Nat.div_le_self _ _
    have h53 : (2 : Nat) ^ 53 = 9007199254740992 := rfl
    have w6 : b = true → IntKind.i64.wrap ((M : Int) / 2 ^ l2) = (q : Int) := fun h => by
      have hc : ((M / 2 ^ l2 : Nat) : Int) = (M : Int) / 2 ^ l2 := by simp
      have hq' := hq h
      have hqM : q ≤ M := by rw [hq']; exact hmn
      rw [← hc, ← hq', IntKind.wrap_i64]
      clear hc hq' hmn
      omega
    have HW6 := Lib.hid w6
    have HW := Lib.hid hw
    have HNO := Lib.hid hno
    have HMM := Lib.hid hml
    have HQ := Lib.hid hq
    clear hz hP hw hq hno hml hM hL hfl hx h0 w6 hmn
    by_cases h63 : l < 63
    · have c1 : (l : Int) < 63 := by omega
      have c2 : decide ((l : Int) < 63) = true := decide_eq_true c1
      have c3 : ¬ (60 : Int) < (l2 : Int) := by omega
      have c4 : decide ((60 : Int) < (l2 : Int)) = false := decide_eq_false c3
      have hc : ((M / 2 ^ l : Nat) : Int) = (M : Int) / 2 ^ l := by simp
      have hMl := HMM.out
      obtain ⟨p, hp⟩ : ∃ p, (2 : Nat) ^ l = p := ⟨_, rfl⟩
      have hpi : (2 : Int) ^ l = (p : Int) := by rw [← hp]; simp
      have hpb : p ≤ 2 ^ 63 := by rw [← hp]; exact Nat.pow_le_pow_right (by decide) (by omega)
      have hp0 : 0 < p := by rw [← hp]; exact Nat.two_pow_pos l
      have h63p : (2 : Nat) ^ 63 = 9223372036854775808 := rfl
      obtain ⟨p1, hp1⟩ : ∃ p1, p - 1 = p1 := ⟨_, rfl⟩
      have x1 : IntKind.u64.wrap ((2 : Int) ^ l) = (p : Int) := by rw [hpi, IntKind.wrap_u64]; omega
      have x2 : IntKind.u64.wrap ((p : Int) - 1) = (p1 : Int) := by rw [IntKind.wrap_u64]; omega
      obtain ⟨r, hr⟩ : ∃ r, M % 2 ^ l = r := ⟨_, rfl⟩
      have x3 : bits .and .u64 (M : Int) (p1 : Int) = (r : Int) := by
        have h := bits_mask .u64 64 (by decide) wraps_u64 l (by omega) (M : Int) (by omega) (by omega)
        have e : (p1 : Int) = (2 : Int) ^ l - 1 := by rw [hpi]; omega
        rw [e, h, ← hr]
        simp
      have HASK := Lib.hid (ref_ask M l)
      by_cases k1 : 1000 < M / 2 ^ l
      · have d1 : (1000 : Int) < (M : Int) / 2 ^ l := by rw [← hc]; omega
        have d2 : decide ((1000 : Int) < (M : Int) / 2 ^ l) = true := decide_eq_true d1
        have hb : b = false := by rw [HW.out]; exact decide_eq_false (fun h => HASK.out.1 h (.inl k1))
        obtain rfl := HNO.out hb
        subst hb
        clear k1 hc h63 hMl hp hpi hpb hp0 h63p hp1 hr h53 hl43 hl2
        go_enter Try.func25, Try.ntmps25
        go_wp2_with fail
        refine HP.out.mono ?_
        rintro e w' ⟨rfl, rfl⟩
        go_wp2_with fail
        go_ret2
        exact ⟨rfl, rfl⟩
      · have d1 : ¬ (1000 : Int) < (M : Int) / 2 ^ l := by rw [← hc]; omega
        have d2 : decide ((1000 : Int) < (M : Int) / 2 ^ l) = false := decide_eq_false d1
        by_cases k2 : M / 2 ^ l = 1000
        · have d3 : (M : Int) / 2 ^ l = 1000 := by rw [← hc]; omega
          have d4 : ((M : Int) / 2 ^ l == 1000) = true := beq_iff_eq.2 d3
          by_cases k3 : r = 0
          · subst k3
            have hb : b = true := by rw [HW.out]; exact decide_eq_true (HASK.out.2 (fun h => by rcases h with h | h; exact k1 h; exact h.2 hr))
            have w6 := HW6.out hb
            subst hb
            clear k1 k2 d3 hc h63 hMl hp hpi hpb hp0 h63p hp1 hr h53 hl43 hl2
            go_enter Try.func25, Try.ntmps25
            go_wp2_with fail
            refine HP.out.mono ?_
            rintro e w' ⟨rfl, rfl⟩
            go_wp2_with fail
            go_ret2
            exact ⟨rfl, rfl⟩
          · have y1 : ((r : Int) == 0) = false := beq_eq_false_iff_ne.2 (by omega)
            have y2 : (r == 0) = false := beq_eq_false_iff_ne.2 k3
            have y3 : ((r : Int) != 0) = true := by simp; omega
            have hb : b = false := by rw [HW.out]; exact decide_eq_false (fun h => HASK.out.1 h (.inr ⟨k2, by rw [hr]; exact k3⟩))
            obtain rfl := HNO.out hb
            subst hb
            clear k1 k2 k3 d3 hc h63 hMl hp hpi hpb hp0 h63p hp1 hr h53 hl43 hl2
            go_enter Try.func25, Try.ntmps25
            go_wp2_with fail
            refine HP.out.mono ?_
            rintro e w' ⟨rfl, rfl⟩
            go_wp2_with fail
            go_ret2
            exact ⟨rfl, rfl⟩
        · have d3 : ((M : Int) / 2 ^ l == 1000) = false := beq_eq_false_iff_ne.2 (by rw [← hc]; omega)
          have hb : b = true := by rw [HW.out]; exact decide_eq_true (HASK.out.2 (fun h => by rcases h with h | h; exact k1 h; exact k2 h.1))
          have w6 := HW6.out hb
          subst hb
          clear k1 k2 hc h63 hMl hp hpi hpb hp0 h63p hp1 hr h53 hl43 hl2 x1 x2 x3
          go_enter Try.func25, Try.ntmps25
          go_wp2_with fail
          refine HP.out.mono ?_
          rintro e w' ⟨rfl, rfl⟩
          go_wp2_with fail
          go_ret2
          exact ⟨rfl, rfl⟩
    · have c1 : ¬ (l : Int) < 63 := by omega
      have c2 : decide ((l : Int) < 63) = false := decide_eq_false c1
      have hb : b = true := by
        rw [HW.out]
        have h2 : (2 : Nat) ^ 53 ≤ 2 ^ l := Nat.pow_le_pow_right (by decide) (by omega)
        exact decide_eq_true (Nat.le_trans (Nat.le_of_lt HMM.out) (Nat.le_trans h2 (Nat.le_mul_of_pos_left _ (by decide))))
      have w6 := HW6.out hb
      by_cases k1 : 60 < l2
      · have c3 : (60 : Int) < (l2 : Int) := by omega
        have c4 : decide ((60 : Int) < (l2 : Int)) = true := decide_eq_true c3
        have hq0 : q = 0 := by
          rw [HQ.out hb]
          have h2 : (2 : Nat) ^ 53 ≤ 2 ^ l2 := Nat.pow_le_pow_right (by decide) (by omega)
          exact Nat.div_eq_of_lt (Nat.lt_of_lt_of_le HMM.out h2)
        subst hq0
        subst hb
        clear k1 h63 h53 hl43 hl2 w6
        go_enter Try.func25, Try.ntmps25
        go_wp2_with fail
        refine HP.out.mono ?_
        rintro e w' ⟨rfl, rfl⟩
        go_wp2_with fail
        go_ret2
        exact ⟨rfl, rfl⟩
      · have c3 : ¬ (60 : Int) < (l2 : Int) := by omega
        have c4 : decide ((60 : Int) < (l2 : Int)) = false := decide_eq_false c3
        subst hb
        clear k1 h63 h53 hl43 hl2
        go_enter Try.func25, Try.ntmps25
        go_wp2_with fail
        refine HP.out.mono ?_
        rintro e w' ⟨rfl, rfl⟩
        go_wp2_with fail
        go_ret2
        exact ⟨rfl, rfl⟩
set_option maxHeartbeats 2000000 in
/-- The document's Quanta. -/
theorem rqu_any {u : Nat} (hu : u < T64) (w : World) :
    Calls Try.prog 25 #[.float .f64 u] w fun e w' => e = .returned (.tuple #[.int .i64 (quW u : Int), .bool (wtW u)]) ∧ w = w' := by
  have HP := Lib.hid (rparts_any hu w)
  have hno : wtW u = false → quW u = 0 := fun h => by unfold quW; rw [if_neg (by rw [h]; decide)]
  by_cases hz : exW u = 0 ∧ frW u = 0
  · obtain ⟨e1, e2⟩ := ref_zero hz.1 hz.2
    rw [e1, e2]
    rw [hz.1, hz.2] at HP
    clear hz e1 e2 hno hu
    generalize ngW u = g at HP
    go_enter Try.func25, Try.ntmps25
    go_wp2_with fail
    refine HP.out.mono ?_
    rintro e w' ⟨rfl, rfl⟩
    go_wp2_with fail
    go_ret2
    exact ⟨rfl, rfl⟩
  · by_cases hn : ngW u = true
    · have e1 := ref_neg hz hn
      rw [hno e1, e1]
      rw [hn] at HP
      have hx := ex_lt u
      generalize exW u = x at *
      generalize frW u = f at *
      clear e1 hno hn hu
      by_cases h0 : x = 0
      · subst h0
        have hf : f ≠ 0 := fun h => hz ⟨rfl, h⟩
        have b1 : ((f : Int) == 0) = false := beq_eq_false_iff_ne.2 (by omega)
        have b2 : (f == 0) = false := beq_eq_false_iff_ne.2 hf
        clear hf hz
        go_enter Try.func25, Try.ntmps25
        go_wp2_with fail
        refine HP.out.mono ?_
        rintro e w' ⟨rfl, rfl⟩
        go_wp2_with fail
        go_ret2
        exact ⟨rfl, rfl⟩
      · have b1 : ((x : Int) == 0) = false := beq_eq_false_iff_ne.2 (by omega)
        have b2 : (x == 0) = false := beq_eq_false_iff_ne.2 h0
        clear h0 hz
        go_enter Try.func25, Try.ntmps25
        go_wp2_with fail
        refine HP.out.mono ?_
        rintro e w' ⟨rfl, rfl⟩
        go_wp2_with fail
        go_ret2
        exact ⟨rfl, rfl⟩
    · have hn' : ngW u = false := by simpa using hn
      by_cases hx : exW u ≤ 1032
      · exact rqu_low hu hz hn' hx w
      · have e1 := ref_high (u := u) (by omega)
        rw [hno e1, e1]
        rw [hn'] at HP
        have hfl : frW u < 4503599627370496 := fr_lt u
        have hxl := ex_lt u
        generalize exW u = x at *
        generalize frW u = f at *
        have b1 : ((x : Int) == 0) = false := beq_eq_false_iff_ne.2 (by omega)
        have b2 : (x == 0) = false := beq_eq_false_iff_ne.2 (by omega)
        by_cases h47 : x = 2047
        · subst h47
          clear hz hx hn hn' e1 hno hu hfl hxl
          go_enter Try.func25, Try.ntmps25
          go_wp2_with fail
          refine HP.out.mono ?_
          rintro e w' ⟨rfl, rfl⟩
          go_wp2_with fail
          go_ret2
          exact ⟨rfl, rfl⟩
        · have b4 : ((x : Int) == 2047) = false := beq_eq_false_iff_ne.2 (by omega)
          have b5 : (x == 2047) = false := beq_eq_false_iff_ne.2 h47
          have b3 : (0 : Int) < (x : Int) := by omega
          have b3' : decide ((0 : Int) < (x : Int)) = true := decide_eq_true b3
          have b6 : (1033 : Int) ≤ (x : Int) := by omega
          have b6' : decide ((1033 : Int) ≤ (x : Int)) = true := decide_eq_true b6
          obtain ⟨M, hM⟩ : ∃ M, f + 4503599627370496 = M := ⟨_, rfl⟩
          have w1 : IntKind.u64.wrap ((f : Int) + 4503599627370496) = (M : Int) := by rw [IntKind.wrap_u64]; omega
          clear hz hx hn hn' e1 hno hu hfl hxl h47 hM
          go_enter Try.func25, Try.ntmps25
          go_wp2_with fail
          refine HP.out.mono ?_
          rintro e w' ⟨rfl, rfl⟩
          go_wp2_with fail
          go_ret2
          exact ⟨rfl, rfl⟩
end Go.Proofs.Ytajmppaodhpmgaa
