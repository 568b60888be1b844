/-
  The contracts of record's Next and All.
-/
import Derived.Test.YtaabfhfiipmhcaaRRec
namespace Go.Proofs.Ytaabfhfiipmhcaa
open Go.RowKit Go.Lib

/-- What Next answers. -/
def NextGave (w : World) (r : NX) (e : Ending) (w' : World) : Prop :=
  ∃ v, e = .returned (.tuple #[v, .int .i64 (r.n : Int), .int .i64 (r.e : Int)]) ∧ Own8 w' w.heap.size v r.body ∧ Below w.heap.size w w'

theorem getOf4 (ys : List UInt8) (h : ys.length = 4) : getOf ys false = num ys.reverse := by
  unfold getOf
  rw [if_neg (by simp), List.take_of_length_le (by omega)]

/-- b[:h] of bytes, the bound as a sum. -/
theorem run_upto8 (A : Option Addr) (len cap h : Nat) (H : Int) (hH : H = (h : Int)) (h2 : h ≤ cap) (W : World) :
    (Instr.slice 22 (.slice A len cap) none (some (.int .i64 H)) none).run Try.prog W = .ok (.slice A h cap) W := by
  subst hH
  obtain ⟨i0, hi, hz0, hz1, hz2⟩ := info_parts info8
  have hc := run_sliceBound (P := Try.prog) (w := W) .i64 (h : Int) cap .sliceAcap (by omega) (by omega)
  cases A <;> simp [Instr.slice, hc, run_underlying Try.underlying22, Instr.sliceBounds, sizeOf, typeInfo, hi, Addr.add] <;> (try split) <;> simp_all

set_option maxRecDepth 100000 in
set_option maxHeartbeats 2000000 in
/-- record.Next -/
theorem next_any (A : Option Addr) (len cap : Nat) (xs : List UInt8) (hlen : len ≤ 100000) (hcap : len ≤ cap) (hcm : cap ≤ maxLen) (w : World) (hI : Rd w w.heap.size A len xs) :
    Calls Try.prog 16 #[.slice A len cap] w (NextGave w (nextOf xs)) := by
  have n1 := nextOf_1 (b := xs)
  have n2 := nextOf_2 (b := xs)
  have n3 := nextOf_3 (b := xs)
  have n4 := nextOf_4 (b := xs)
  have n5 := nextOf_5 (b := xs)
  have hk := vget_k xs
  have he3 := vget_e xs
  have HV := Lib.hid (fun W (h : Rd W w.heap.size A len xs) => vget_any A len cap xs hlen W h)
  obtain ⟨⟨n, k, e⟩, hg⟩ : ∃ g, vget xs = g := ⟨_, rfl⟩
  rw [hg] at n1 n2 n3 n4 n5 hk he3 HV
  simp only at n1 n2 n3 n4 n5 hk he3
  have hxl := hI.len
  clear hg
  by_cases he : e = 0
  · subst he
    have b0 : ((0 : Int) != 0) = false := rfl
    by_cases hn : 1048576 < n
    · rw [n2 rfl hn]
      have hn' : (1048576 : Int) < (n : Int) := by omega
      clear n1 n2 n3 n4 n5 hxl
      go_enter Try.func16, Try.ntmps16
      go_wp2_with fail
      refine (HV.out _ hI).mono ?_
      rintro e w' ⟨rfl, rfl⟩
      go_wp2_with fail
      go_ret3
      exact ⟨_, rfl, Own8.nil_ _ _, Below.refl _ _⟩
    · have hn' : decide ((1048576 : Int) < (n : Int)) = false := decide_eq_false (by omega)
      have hnb : n ≤ 1048576 := by omega
      have hkb : k ≤ 100000 := by omega
      by_cases hs : xs.length < k + n + 4
      · rw [n3 rfl hn hs]
        have hs' : (len : Int) < (k : Int) + (n : Int) + 4 := by omega
        clear n1 n2 n3 n4 n5 hxl hs hn
        go_enter Try.func16, Try.ntmps16
        go_wp2_with fail
        refine (HV.out _ hI).mono ?_
        rintro e w' ⟨rfl, rfl⟩
        go_wp2_with fail
        go_ret3
        exact ⟨_, rfl, Own8.nil_ _ _, Below.refl _ _⟩
      · have hs' : decide ((len : Int) < (k : Int) + (n : Int) + 4) = false := decide_eq_false (by omega)
        have hcut1 := run_cut8 A len cap (k + n) 4 ((k : Int) + (n : Int)) ((k : Int) + (n : Int) + 4) (by omega) (by omega) (by omega)
        have hcut2 := run_upto8 A len cap (k + n) ((k : Int) + (n : Int)) (by omega) (by omega)
        have hcut3 := run_cut8 A len cap k n (k : Int) ((k : Int) + (n : Int)) (by omega) (by omega) (by omega)
        have hwr : IntKind.i64.wrap ((k : Int) + (n : Int) + 4) = (k : Int) + (n : Int) + 4 := by rw [IntKind.wrap_i64]; omega
        have r1 := hI.cut (l := k + n) (n := 4) (by omega) cap hcap
        have r2 := hI.take (k := k + n) (by omega)
        have r3 := hI.cut (l := k) (n := n) (by omega) cap hcap
        have hl4 := r1.len
        have hG : ∀ W, Below w.heap.size w W → Calls Try.prog 29 #[.slice (cutA A cap (k + n)) 4 (cap - (k + n)), .bool false] W fun e W' => e = .returned (.int .u64 ((num ((xs.drop (k + n)).take 4).reverse : Nat) : Int)) ∧ Below w.heap.size w W' := fun W hb =>
          (get_any (cutA A cap (k + n)) 4 (cap - (k + n)) _ false (by omega) (by omega) (by omega) W ((r1.below hb).more hb.size)).mono fun e W' ⟨h1, h2⟩ => ⟨by rw [h1, getOf4 _ hl4], hb.trans (h2.mono hb.size)⟩
        have hC : ∀ W, Below w.heap.size w W → Calls Try.prog 30 #[.slice A (k + n) cap] W fun e W' => e = .returned (.int .u32 ((sumOn 0 (xs.take (k + n)) : Nat) : Int)) ∧ Below w.heap.size w W' := fun W hb =>
          (of_any A (k + n) cap _ (by omega) W (r2.below hb) hb.size).mono fun e W' ⟨h1, h2⟩ => ⟨h1, hb.trans (h2.mono hb.size)⟩
        have hst := sum_there (xs.take (k + n)) ((xs.drop (k + n)).take 4) hl4
        have hsl := sumOn_lt 0 (xs.take (k + n)) (by decide)
        obtain ⟨N, hN⟩ : ∃ N, num ((xs.drop (k + n)).take 4).reverse = N := ⟨_, rfl⟩
        obtain ⟨S, hS⟩ : ∃ S, sumOn 0 (xs.take (k + n)) = S := ⟨_, rfl⟩
        rw [hN, hS] at hst
        rw [hN] at hG
        rw [hS] at hC hsl
        have hws : IntKind.u64.wrap (S : Int) = (S : Int) := by rw [IntKind.wrap_u64]; omega
        have HG := Lib.hid hG
        have HC := Lib.hid hC
        have R3 := Lib.hid r3
        clear hN hS hG hC r1 r2 r3 hl4 n1 n2 n3
        by_cases hq : N = S
        · have hbody := n5 rfl hn hs (hst.1 hq)
          subst hq
          rw [hbody]
          have e1 : ((N : Int) != (N : Int)) = false := by simp
          have e2 : (N != N) = false := by simp
          clear hst hbody n4 n5 hs hn hxl
          go_enter Try.func16, Try.ntmps16
          go_wp2_with fail
          refine (HV.out _ hI).mono ?_
          rintro e w' ⟨rfl, rfl⟩
          go_wp2_with fail
          go_region_held3 (fun _ => True) (trivial) (first
            | (go_at_call 29; refine (HG.out _ ?_).mono ?_; (first | exact (Below.refl _ _).drew | exact hB2); rintro e W1 ⟨rfl, hB1⟩)
            | (go_at_call 30; refine (HC.out _ ?_).mono ?_; (first | exact (Below.refl _ _).drew | exact hB1); rintro e W2 ⟨rfl, hB2⟩))
          all_goals go_wp2_with fail
          all_goals
            refine (clone_any _ _ _ _ (by omega) _ (R3.out.below (by first | exact hB2 | exact hB1)) (by first | exact hB2.size | exact hB1.size)).mono ?_
            rintro e W3 ⟨v, rfl, ho, hB3⟩
            go_wp2_with fail
            go_ret3
            first
              | exact ⟨_, rfl, ho.base_le hB2.size, hB2.trans (hB3.mono hB2.size)⟩
              | exact ⟨_, rfl, ho.base_le hB1.size, hB1.trans (hB3.mono hB1.size)⟩
        · have hbody := n4 rfl hn hs (fun h => hq (hst.2 h))
          rw [hbody]
          have e1 : ((N : Int) != (S : Int)) = true := bne_iff_ne.2 (by omega)
          have e2 : (N != S) = true := bne_iff_ne.2 hq
          have e3 : decide (N = S) = false := decide_eq_false hq
          have e4 : (N == S) = false := beq_eq_false_iff_ne.2 hq
          have e5 : ((N : Int) == (S : Int)) = false := beq_eq_false_iff_ne.2 (by omega)
          clear hst hbody n4 n5 hs hn hxl hq
          go_enter Try.func16, Try.ntmps16
          go_wp2_with fail
          refine (HV.out _ hI).mono ?_
          rintro e w' ⟨rfl, rfl⟩
          go_wp2_with fail
          go_region_held3 (fun _ => True) (trivial) (first
            | (go_at_call 29; refine (HG.out _ ?_).mono ?_; (first | exact (Below.refl _ _).drew | exact hB2); rintro e W1 ⟨rfl, hB1⟩)
            | (go_at_call 30; refine (HC.out _ ?_).mono ?_; (first | exact (Below.refl _ _).drew | exact hB1); rintro e W2 ⟨rfl, hB2⟩))
          all_goals go_wp2_with fail
          all_goals
            go_ret3
            first
              | exact ⟨_, rfl, Own8.nil_ _ _, hB2⟩
              | exact ⟨_, rfl, Own8.nil_ _ _, hB1⟩
  · rw [n1 he]
    have b0 : ((e : Int) != 0) = true := bne_iff_ne.2 (by omega)
    have b1 : (e != 0) = true := bne_iff_ne.2 he
    clear n1 n2 n3 n4 n5 hxl he
    go_enter Try.func16, Try.ntmps16
    go_wp2_with fail
    refine (HV.out _ hI).mono ?_
    rintro e w' ⟨rfl, rfl⟩
    go_wp2_with fail
    go_ret3
    exact ⟨_, rfl, Own8.nil_ _ _, Below.refl _ _⟩
end Go.Proofs.Ytaabfhfiipmhcaa
