/-
  The contract of a reader's Text.
-/
import Derived.Test.YtghocjigmcdobaaCAsk
namespace Go.Proofs.Ytghocjigmcdobaa
open Go.RowKit Go.Lib

/-- What Text comes to. -/
def RS.text (s : RS) (z : Int) : RS :=
  if s.look.fe = 0 then (if z < 0 ∨ z < s.got.n then ⟨s.xs, s.at_, s.at_, 4⟩ else if s.left < s.got.k + s.got.n then ⟨s.xs, s.at_, s.at_, 2⟩ else ⟨s.xs, s.at_ + s.got.k + s.got.n, s.fa, s.fe⟩) else s.look
def RS.textB (s : RS) (z : Int) : List UInt8 :=
  if s.look.fe = 0 then (if z < 0 ∨ z < s.got.n then [] else if s.left < s.got.k + s.got.n then [] else (s.xs.drop (s.at_ + s.got.k)).take s.got.n) else []

theorem RS.look_fe {s : RS} (h : s.look.fe = 0) : s.fe = 0 ∧ s.got.e = 0 := by
  by_cases hf : s.fe = 0
  · by_cases h0 : s.got.e = 0
    · exact ⟨hf, h0⟩
    · rw [(RS.look_1 hf h0).1] at h; exact absurd h h0
  · rw [(RS.look_2 hf).1] at h; exact absurd h hf
theorem RS.look_bad {s : RS} (h : s.look.fe ≠ 0) : s.lookN = 0 ∧ s.lookK = 0 := by
  by_cases hf : s.fe = 0
  · by_cases h0 : s.got.e = 0
    · rw [(RS.look_0 hf h0).1] at h; exact absurd hf h
    · exact (RS.look_1 hf h0).2
  · exact (RS.look_2 hf).2
theorem RS.text_bad {s : RS} (h : s.look.fe ≠ 0) (z : Int) : s.text z = s.look ∧ s.textB z = [] := ⟨if_neg h, if_neg h⟩
theorem RS.text_long {s : RS} (h : s.look.fe = 0) {z : Int} (hz : z < 0 ∨ z < s.got.n) : s.text z = ⟨s.xs, s.at_, s.at_, 4⟩ ∧ s.textB z = [] := by
  unfold RS.text RS.textB
  rw [if_pos h, if_pos hz, if_pos h, if_pos hz]
  exact ⟨rfl, rfl⟩
theorem RS.text_short {s : RS} (h : s.look.fe = 0) {z : Int} (hz : ¬ (z < 0 ∨ z < s.got.n)) (hl : s.left < s.got.k + s.got.n) : s.text z = ⟨s.xs, s.at_, s.at_, 2⟩ ∧ s.textB z = [] := by
  unfold RS.text RS.textB
  rw [if_pos h, if_neg hz, if_pos hl, if_pos h, if_neg hz, if_pos hl]
  exact ⟨rfl, rfl⟩
theorem RS.text_fits {s : RS} (h : s.look.fe = 0) {z : Int} (hz : ¬ (z < 0 ∨ z < s.got.n)) (hl : ¬ s.left < s.got.k + s.got.n) : s.text z = ⟨s.xs, s.at_ + s.got.k + s.got.n, s.fa, s.fe⟩ ∧ s.textB z = (s.xs.drop (s.at_ + s.got.k)).take s.got.n := by
  unfold RS.text RS.textB
  rw [if_pos h, if_neg hz, if_neg hl, if_pos h, if_neg hz, if_neg hl]
  exact ⟨rfl, rfl⟩

/-- What is read as a varint has a number of 64 bits, and no more bytes than there are. -/
theorem got_fits (xs : List UInt8) (h : (vget xs).e = 0) : (vget xs).n < 18446744073709551616 ∧ (vget xs).k ≤ xs.length := by
  rcases vget_tells xs with ⟨q, hg, ht, hq⟩ | hg | hg
  · rw [hg]
    refine ⟨hq, ?_⟩
    have := congrArg List.length ht
    rw [List.length_take] at this
    show (uvarint q).length ≤ xs.length
    omega
  · rw [hg] at h; cases h
  · rw [hg] at h; cases h

theorem left_is {w : World} {P : Nat} {A : Option Addr} {cap : Nat} {s : RS} (h : Rdr w P A cap s) {L : Nat} (hL : s.left = L) :
    Calls Try.prog 26 #[.pointer (some ⟨P, 0, none⟩)] w fun e w' => e = .returned (.int .i64 (L : Nat)) ∧ ∃ n, w' = w.drewN n := by
  rw [← hL]; exact left_any h
theorem RS.look_xs (s : RS) : s.look.xs = s.xs := by unfold RS.look; split <;> rfl
theorem RS.left_le (s : RS) : s.left ≤ s.xs.length := Nat.sub_le _ _

set_option maxRecDepth 100000 in
set_option maxHeartbeats 1000000 in
/-- Where no varint stands. -/
theorem text_bad {w : World} {P : Nat} {A : Option Addr} {cap : Nat} {s : RS} (h : Rdr w P A cap s) (hb : s.look.fe ≠ 0) (z : Int) (hz0 : -9223372036854775808 ≤ z) (hz1 : z ≤ 9223372036854775807) :
    Calls Try.prog 22 #[.pointer (some ⟨P, 0, none⟩), .int .i64 z] w (GaveB w P A cap s.look []) := by
  obtain ⟨e2, e3⟩ := RS.look_bad hb
  have HA := ahead_any h
  rw [e2, e3] at HA
  have HH := Lib.hid HA
  have HB := Lib.hid hb
  have hle := s.look.left_le
  rw [s.look_xs] at hle
  have hfew := h.few
  obtain ⟨L, hL⟩ : ∃ L, s.look.left = L := ⟨_, rfl⟩
  rw [hL] at hle
  have HL := Lib.hid hL
  have hl2 : (L : Int) ≤ 100000 := by omega
  have hl : decide ((L : Int) < 0) = false := decide_eq_false (by omega)
  clear e2 e3 HA hb hle hfew hL
  by_cases hz : z < 0
  · go_enter Try.func22, Try.ntmps22
    go_wp2_with fail
    refine Calls.mono HH.out ?_
    rintro e w1 ⟨rfl, h1, g1⟩
    go_wp2_with fail
    refine (fail_any h1 4).mono ?_
    rintro e w2 ⟨rfl, h2, g2⟩
    rw [RS.fail_yes HB.out] at h2
    go_wp2_with fail
    refine (left_is h2 (by first | exact HL.out | rfl)).mono ?_
    rintro e w3 ⟨rfl, n3, rfl⟩
    go_wp2_with fail
    refine (failed_yes (h2.drewN n3) HB.out).mono ?_
    rintro e w4 ⟨rfl, rfl⟩
    go_wp2_with fail
    go_ret
    exact ⟨_, rfl, Own8.nil_ _ _, h2.drewN n3, gb_drewN (gb_trans g1 g2) n3⟩
  · have hz' : (0 : Int) ≤ z := by omega
    go_enter Try.func22, Try.ntmps22
    go_wp2_with fail
    refine Calls.mono HH.out ?_
    rintro e w1 ⟨rfl, h1, g1⟩
    go_wp2_with fail
    refine (left_is h1 (by first | exact HL.out | rfl)).mono ?_
    rintro e w3 ⟨rfl, n3, rfl⟩
    go_wp2_with fail
    refine (failed_yes (h1.drewN n3) HB.out).mono ?_
    rintro e w4 ⟨rfl, rfl⟩
    go_wp2_with fail
    go_ret
    exact ⟨_, rfl, Own8.nil_ _ _, h1.drewN n3, gb_drewN g1 n3⟩

set_option maxRecDepth 100000 in
set_option maxHeartbeats 2000000 in
/-- Where one stands. -/
theorem text_ok {w : World} {P : Nat} {A : Option Addr} {cap : Nat} {s : RS} (h : Rdr w P A cap s) (hb : s.look.fe = 0) (z : Int) (hz0 : -9223372036854775808 ≤ z) (hz1 : z ≤ 9223372036854775807) :
    Calls Try.prog 22 #[.pointer (some ⟨P, 0, none⟩), .int .i64 z] w (GaveB w P A cap (s.text z) (s.textB z)) := by
  obtain ⟨hf, h0⟩ := RS.look_fe hb
  obtain ⟨e1, e2, e3⟩ := RS.look_0 hf h0
  obtain ⟨b1, b2⟩ := got_fits (s.xs.drop s.at_) h0
  rw [List.length_drop] at b2
  have HA := ahead_any h
  rw [e1, e2, e3] at HA
  have t1 := @RS.text_long s hb z
  have t2 := @RS.text_short s hb z
  have t3 := @RS.text_fits s hb z
  change s.got.n < _ at b1
  change s.got.k ≤ _ at b2
  obtain ⟨n, hn⟩ : ∃ n, s.got.n = n := ⟨_, rfl⟩
  obtain ⟨k, hk⟩ : ∃ k, s.got.k = k := ⟨_, rfl⟩
  rw [hn] at b1 HA t1 t2 t3
  rw [hk] at b2 HA t2 t3
  have HH := Lib.hid HA
  have HF := Lib.hid hf
  have T1 := Lib.hid t1
  have T2 := Lib.hid t2
  have T3 := Lib.hid t3
  have hle := s.left_le
  have hlf : s.left = s.xs.length - s.at_ := rfl
  have hat := h.le
  have hfew := h.few
  obtain ⟨L, hL⟩ : ∃ L, s.left = L := ⟨_, rfl⟩
  rw [hL] at hle T2 T3 hlf
  rw [← hlf] at b2
  have HL := Lib.hid hL
  have HLf := Lib.hid hlf
  have hl2 : (L : Int) ≤ 100000 := by omega
  have hk2 : (k : Int) ≤ (L : Int) := by omega
  clear e1 e2 e3 HA hb hL t1 t2 t3 hf h0 hn hk hlf
  by_cases hz : z < 0
  · rw [(T1.out (.inl hz)).1, (T1.out (.inl hz)).2]
    by_cases hq : (L : Int) - (k : Int) < (n : Int)
    · go_enter Try.func22, Try.ntmps22
      go_wp2_with fail
      refine Calls.mono HH.out ?_
      rintro e w1 ⟨rfl, h1, g1⟩
      go_wp2_with fail
      refine (fail_any h1 4).mono ?_
      rintro e w2 ⟨rfl, h2, g2⟩
      rw [RS.fail_no HF.out] at h2
      go_wp2_with fail
      refine (left_is h2 HL.out).mono ?_
      rintro e w3 ⟨rfl, n3, rfl⟩
      go_wp2_with fail
      refine (fail_any (h2.drewN n3) 2).mono ?_
      rintro e w4 ⟨rfl, h4, g4⟩
      rw [RS.fail_yes (show (4 : Nat) ≠ 0 by decide)] at h4
      go_wp2_with fail
      refine (failed_yes h4 (show (4 : Nat) ≠ 0 by decide)).mono ?_
      rintro e w5 ⟨rfl, rfl⟩
      go_wp2_with fail
      go_ret
      exact ⟨_, rfl, Own8.nil_ _ _, h4, gb_trans (gb_drewN (gb_trans g1 g2) n3) g4⟩
    · have hq' : (n : Int) ≤ (L : Int) - (k : Int) := by omega
      clear hq
      go_enter Try.func22, Try.ntmps22
      go_wp2_with fail
      refine Calls.mono HH.out ?_
      rintro e w1 ⟨rfl, h1, g1⟩
      go_wp2_with fail
      refine (fail_any h1 4).mono ?_
      rintro e w2 ⟨rfl, h2, g2⟩
      rw [RS.fail_no HF.out] at h2
      go_wp2_with fail
      refine (left_is h2 HL.out).mono ?_
      rintro e w3 ⟨rfl, n3, rfl⟩
      go_wp2_with fail
      refine (failed_yes (h2.drewN n3) (show (4 : Nat) ≠ 0 by decide)).mono ?_
      rintro e w5 ⟨rfl, rfl⟩
      go_wp2_with fail
      go_ret
      exact ⟨_, rfl, Own8.nil_ _ _, h2.drewN n3, gb_drewN (gb_trans g1 g2) n3⟩
  · have hz' : (0 : Int) ≤ z := by omega
    by_cases hzn : z < (n : Int)
    · rw [(T1.out (.inr hzn)).1, (T1.out (.inr hzn)).2]
      clear hz
      by_cases hq : (L : Int) - (k : Int) < (n : Int)
      · go_enter Try.func22, Try.ntmps22
        go_wp2_with fail
        refine Calls.mono HH.out ?_
        rintro e w1 ⟨rfl, h1, g1⟩
        go_wp2_with fail
        refine (fail_any h1 4).mono ?_
        rintro e w2 ⟨rfl, h2, g2⟩
        rw [RS.fail_no HF.out] at h2
        go_wp2_with fail
        refine (left_is h2 HL.out).mono ?_
        rintro e w3 ⟨rfl, n3, rfl⟩
        go_wp2_with fail
        refine (fail_any (h2.drewN n3) 2).mono ?_
        rintro e w4 ⟨rfl, h4, g4⟩
        rw [RS.fail_yes (show (4 : Nat) ≠ 0 by decide)] at h4
        go_wp2_with fail
        refine (failed_yes h4 (show (4 : Nat) ≠ 0 by decide)).mono ?_
        rintro e w5 ⟨rfl, rfl⟩
        go_wp2_with fail
        go_ret
        exact ⟨_, rfl, Own8.nil_ _ _, h4, gb_trans (gb_drewN (gb_trans g1 g2) n3) g4⟩
      · have hq' : (n : Int) ≤ (L : Int) - (k : Int) := by omega
        clear hq
        go_enter Try.func22, Try.ntmps22
        go_wp2_with fail
        refine Calls.mono HH.out ?_
        rintro e w1 ⟨rfl, h1, g1⟩
        go_wp2_with fail
        refine (fail_any h1 4).mono ?_
        rintro e w2 ⟨rfl, h2, g2⟩
        rw [RS.fail_no HF.out] at h2
        go_wp2_with fail
        refine (left_is h2 HL.out).mono ?_
        rintro e w3 ⟨rfl, n3, rfl⟩
        go_wp2_with fail
        refine (failed_yes (h2.drewN n3) (show (4 : Nat) ≠ 0 by decide)).mono ?_
        rintro e w5 ⟨rfl, rfl⟩
        go_wp2_with fail
        go_ret
        exact ⟨_, rfl, Own8.nil_ _ _, h2.drewN n3, gb_drewN (gb_trans g1 g2) n3⟩
    · have hnz : ¬ (z < 0 ∨ z < (n : Int)) := by omega
      have hzn' : (n : Int) ≤ z := by omega
      by_cases hq : (L : Int) - (k : Int) < (n : Int)
      · have hs : L < k + n := by omega
        rw [(T2.out hnz hs).1, (T2.out hnz hs).2]
        clear hz hzn hnz hs
        go_enter Try.func22, Try.ntmps22
        go_wp2_with fail
        refine Calls.mono HH.out ?_
        rintro e w1 ⟨rfl, h1, g1⟩
        go_wp2_with fail
        refine (left_is h1 HL.out).mono ?_
        rintro e w3 ⟨rfl, n3, rfl⟩
        go_wp2_with fail
        refine (fail_any (h1.drewN n3) 2).mono ?_
        rintro e w4 ⟨rfl, h4, g4⟩
        rw [RS.fail_no HF.out] at h4
        go_wp2_with fail
        refine (failed_yes h4 (show (2 : Nat) ≠ 0 by decide)).mono ?_
        rintro e w5 ⟨rfl, rfl⟩
        go_wp2_with fail
        go_ret
        exact ⟨_, rfl, Own8.nil_ _ _, h4, gb_trans (gb_drewN g1 n3) g4⟩
      · have hs : ¬ L < k + n := by omega
        have hq' : (n : Int) ≤ (L : Int) - (k : Int) := by omega
        rw [(T3.out hnz hs).1, (T3.out hnz hs).2]
        clear hz hzn hnz
        go_enter Try.func22, Try.ntmps22
        go_wp2_with fail
        refine Calls.mono HH.out ?_
        rintro e w1 ⟨rfl, h1, g1⟩
        go_wp2_with fail
        refine (left_is h1 HL.out).mono ?_
        rintro e w3 ⟨rfl, n3, rfl⟩
        go_wp2_with fail
        refine (failed_no (h1.drewN n3) HF.out).mono ?_
        rintro e w4 ⟨rfl, rfl⟩
        go_wp2_with fail
        refine (next_any (h1.drewN n3) k).mono ?_
        rintro e w5 ⟨A5, m5, c5, rfl, _, _, _, h5, g5⟩
        rw [RS.next_fits HF.out (by have := HL.out; omega)] at h5
        go_wp2_with fail
        refine (take_any h5 n).mono ?_
        rintro e w6 ⟨v, rfl, hown, h6, g6⟩
        go_wp2_with fail
        go_ret
        have e6 : RS.take ⟨s.xs, s.at_ + k, s.fa, s.fe⟩ n = ⟨s.xs, s.at_ + k + n, s.fa, s.fe⟩ := by
          unfold RS.take
          rw [if_neg (by omega), Int.toNat_natCast, RS.next_fits (s := ⟨s.xs, s.at_ + k, s.fa, s.fe⟩) HF.out (by show n ≤ s.xs.length - (s.at_ + k); have := HLf.out; omega)]
        have e7 : RS.takeB ⟨s.xs, s.at_ + k, s.fa, s.fe⟩ n = (s.xs.drop (s.at_ + k)).take n := by
          unfold RS.takeB
          rw [if_neg (by omega), Int.toNat_natCast, RS.nextB_fits (s := ⟨s.xs, s.at_ + k, s.fa, s.fe⟩) HF.out (by show n ≤ s.xs.length - (s.at_ + k); have := HLf.out; omega)]
        rw [e6] at h6
        rw [e7] at hown
        have g := gb_trans (gb_drewN g1 n3) g5
        exact ⟨v, rfl, hown.base_le g.size, h6, gb_trans g g6⟩

/-- The reader's Text. -/
theorem text_any {w : World} {P : Nat} {A : Option Addr} {cap : Nat} {s : RS} (h : Rdr w P A cap s) (z : Int) (hz0 : -9223372036854775808 ≤ z) (hz1 : z ≤ 9223372036854775807) :
    Calls Try.prog 22 #[.pointer (some ⟨P, 0, none⟩), .int .i64 z] w (GaveB w P A cap (s.text z) (s.textB z)) := by
  by_cases hb : s.look.fe = 0
  · exact text_ok h hb z hz0 hz1
  · rw [(RS.text_bad hb z).1, (RS.text_bad hb z).2]
    exact text_bad h hb z hz0 hz1
end Go.Proofs.Ytghocjigmcdobaa
