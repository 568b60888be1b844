/-
  ConnOnce: its walk, the program's contracts a premise.
-/
import Derived.Test.YtljmegmklfohjaaZAwake
namespace Go.Proofs.Ytljmegmklfohjaa
set_option maxRecDepth 100000
open Go.RowKit Go.Lib

/-- Where a state of TCP may come to. -/
theorem step_ways {s : Int} (h1 : 1 ≤ s) (h4 : s ≤ 4) (z : Int) :
    (s = 1 ∧ stN s z = 4 ∧ bitB z 4 = true) ∨ (s = 1 ∧ stN s z = 3 ∧ bitB z 4 = false) ∨ (s = 1 ∧ stN s z = 2 ∧ bitB z 4 = false) ∨ (s = 1 ∧ stN s z = 1 ∧ bitB z 4 = false) ∨
    (s = 2 ∧ stN s z = 4 ∧ bitB z 4 = true) ∨ (s = 2 ∧ stN s z = 3 ∧ bitB z 4 = false) ∨ (s = 2 ∧ stN s z = 2 ∧ bitB z 4 = false) ∨
    (s = 3 ∧ stN s z = 4 ∧ bitB z 4 = true) ∨ (s = 3 ∧ stN s z = 3 ∧ bitB z 4 = false) ∨
    (s = 4 ∧ stN s z = 4 ∧ bitB z 4 = true) ∨ (s = 4 ∧ stN s z = 4 ∧ bitB z 4 = false) ∨ (s = 4 ∧ stN s z = 1 ∧ bitB z 4 = false ∧ bitB z 2 = true ∧ bitB z 16 = false) := by
  have hs : s = 1 ∨ s = 2 ∨ s = 3 ∨ s = 4 := by omega
  unfold stN opB
  generalize bitB z 4 = b4
  generalize bitB z 1 = b1
  generalize bitB z 2 = b2
  generalize bitB z 16 = b16
  rcases hs with rfl | rfl | rfl | rfl <;> cases b4 <;> cases b1 <;> cases b2 <;> cases b16 <;> simp
theorem and4 (z : Int) : bits .and .i64 z 4 = if bitB z 4 = true then 4 else 0 := and_pow z 2 (by decide)
theorem and2 (z : Int) : bits .and .i64 z 2 = if bitB z 2 = true then 2 else 0 := and_pow z 1 (by decide)
theorem and16 (z : Int) : bits .and .i64 z 16 = if bitB z 16 = true then 16 else 0 := and_pow z 4 (by decide)
set_option maxHeartbeats 40000000 in
theorem connOnce_walkW (S : ConnC) (f : Int) (h1 : -9223372036854775808 ≤ f) (h2 : f ≤ 9223372036854775807) (A : Option Addr) (n c : Nat) (xs : List Int) (hc : n ≤ c) (hm : c ≤ maxLen) (hX : ∀ x, x ∈ xs → In64 x) (w : World) (hI : RdG eZ w w.heap.size A n xs) :
    Calls Try.prog 6 #[.int .i64 f, .slice A n c] w fun e w' => e = .returned (.bool true) ∧ Below w.heap.size w w' := by
  have HA := Lib.hid (fun W => awake_any S W)
  have HI := Lib.hid hI
  by_cases hn : n ≤ 1000
  case neg =>
    have k1 : 1000 < (n : Int) := by omega
    clear hc hm hX hI HI S
    go_enter Try.func6, Try.ntmps6
    go_wp2_with ((with_reducible refine (HA.out w).mono ?_); rintro e w1 ⟨rfl, hb⟩; have D1 := Lib.hid hb; clear hb)
    refine (HA.out w1).mono ?_
    rintro e w2 ⟨rfl, hb⟩
    have D2 := Lib.hid (bel2 D1.out hb)
    clear hb
    go_wp2_with fail
    go_ret
    exact ⟨rfl, D2.out⟩
  case pos =>
    have k1 : ¬ 1000 < (n : Int) := by omega
    have HB6 := Lib.hid (fun W => S.begin_ 6 f W (in64_lit 6 (by decide) (by decide)) ⟨h1, h2⟩)
    have HB17 : Hid (∀ W, Calls Try.prog 11 #[.int .i64 17, .int .i64 f] W fun e w' => e = .returned (.int .i64 5) ∧ Below W.heap.size W w') := Lib.hid (fun W => by
      have h := S.begin_ 17 f W (in64_lit 17 (by decide) (by decide)) ⟨h1, h2⟩
      rwa [show stB 17 f = 5 from rfl] at h)
    have HRU : Hid (∀ W, Below w.heap.size w W → Calls Try.prog 15 #[.int .i64 5, .slice A n c] W fun e w' => e = .returned (.int .i64 5) ∧ Below W.heap.size W w') := Lib.hid (fun W hW => by
      have h := S.run 5 A n c xs W w.heap.size (in64_lit 5 (by decide) (by decide)) (by omega) hc hm hX hW.size (hI.below hW)
      rwa [stR_udp] at h)
    have HNX := Lib.hid (fun (t z : Int) (ht : In64 t) (hz : In64 z) (W : World) => S.next t z W ht hz)
    have hst := stB_tcp f
    obtain ⟨s0, hs0⟩ : ∃ s, stB 6 f = s := ⟨_, rfl⟩
    rw [hs0] at HB6 hst
    have HST := Lib.hid hst
    have HXX := Lib.hid hX
    have HN := Lib.hid hn
    clear hc hm hX hI S h1 h2 hst hs0 hn
    go_enter Try.func6, Try.ntmps6
    go_wp2_with (first
      | ((with_reducible refine (HA.out w).mono ?_); rintro e w1 ⟨rfl, hb⟩; have D1 := Lib.hid hb; clear hb)
      | ((with_reducible refine (HB6.out w1).mono ?_); rintro e w2 ⟨rfl, hb⟩; have D2 := Lib.hid (bel2 D1.out hb); clear hb))
    clear k1
    go_loopw [5, 6] (fun t i wr => ∃ (k : Nat) (s : Int), k ≤ n ∧ i = .int .i64 (k : Int) ∧ t = .int .i64 s ∧ Hid (1 ≤ s ∧ s ≤ 4) ∧ Below w.heap.size w wr)
      (fun _ i _ => n - (intOf i).toNat)
    case atStart => exact ⟨0, s0, Nat.zero_le _, rfl, rfl, HST, D2.out⟩
    case round =>
      obtain ⟨k, s, hk, rfl, rfl, HS, hbel⟩ := hrel
      have HB := Lib.hid hbel
      clear hbel
      by_cases hlt : k < n
      · have h1 : (k : Int) < (n : Int) := by omega
        have h0 : (0 : Int) ≤ (k : Int) := by omega
        obtain ⟨b, off, rfl, _⟩ := HI.out.addr (by omega)
        obtain ⟨z, hz⟩ : ∃ x, xs[k]? = some x := ⟨_, List.getElem?_eq_getElem (by rw [HI.out.len]; exact hlt)⟩
        have HQ := Lib.hid (fun (W : World) (h : Below w.heap.size w W) => (HI.out.below h).cell1 hz (u := .int .i64 z) rfl)
        have q1 := HQ.out wr HB.out
        have HCK := Lib.hid (HNX.out s z ⟨by have := HS.out; omega, by have := HS.out; omega⟩ (HXX.out z (List.mem_of_getElem? hz)))
        have HT := Lib.hid (stN_tcp HS.out.1 HS.out.2 z)
        have hway := step_ways HS.out.1 HS.out.2 z
        have a4 := and4 z
        have a2 := and2 z
        have a16 := and16 z
        generalize bitB z 4 = b4 at hway a4
        generalize bitB z 2 = b2 at hway a2
        generalize bitB z 16 = b16 at hway a16
        generalize stN s z = t at hway HCK HT
        have HLT := Lib.hid hlt
        have hk9 : k < 1000 := by have := HN.out; omega
        clear hz hk hlt HS
        rcases hway with ⟨rfl, rfl, rfl⟩ | ⟨rfl, rfl, rfl⟩ | ⟨rfl, rfl, rfl⟩ | ⟨rfl, rfl, rfl⟩ | ⟨rfl, rfl, rfl⟩ | ⟨rfl, rfl, rfl⟩ | ⟨rfl, rfl, rfl⟩ | ⟨rfl, rfl, rfl⟩ | ⟨rfl, rfl, rfl⟩ | ⟨rfl, rfl, rfl⟩ | ⟨rfl, rfl, rfl⟩ | ⟨rfl, rfl, rfl, rfl, rfl⟩
        all_goals (try cases b2)
        all_goals (try cases b16)
        all_goals
          simp only [if_true, if_false, Bool.false_eq_true] at a4 a2 a16
          go_wp2_with ((with_reducible refine (HCK.out wr).mono ?_); rintro e w3 ⟨rfl, hb⟩; have D3 := Lib.hid (HB.out.trans (hb.mono HB.out.size)); clear hb; clear q1; have q1 := HQ.out w3 D3.out)
          go_roundw
          case rel => exact ⟨k + 1, _, HLT.out, (by have := HLT.out; go_num), rfl, HT, D3.out⟩
          case measure =>
            have := HLT.out
            simp [intOf]
            omega
      · obtain rfl : k = n := by omega
        have h1 : ¬ (k : Int) < (k : Int) := by omega
        clear hlt hk
        go_wp2_with (first
          | ((with_reducible refine (HB17.out wr).mono ?_); rintro e w3 ⟨rfl, hb⟩; have D3 := Lib.hid (HB.out.trans (hb.mono HB.out.size)); clear hb)
          | ((with_reducible refine (HRU.out w3 D3.out).mono ?_); rintro e w4 ⟨rfl, hb⟩; have D4 := Lib.hid (D3.out.trans (hb.mono D3.out.size)); clear hb))
        go_ret
        exact ⟨rfl, D4.out⟩
end Go.Proofs.Ytljmegmklfohjaa
