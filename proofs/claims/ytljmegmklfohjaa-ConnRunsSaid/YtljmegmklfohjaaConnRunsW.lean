/-
  ConnRuns: its walk, the program's contracts a premise.
-/
import Derived.Test.YtljmegmklfohjaaZAwake
namespace Go.Proofs.Ytljmegmklfohjaa
set_option maxRecDepth 100000
open Go.RowKit Go.Lib

set_option maxHeartbeats 8000000 in
theorem connRuns_walkW (S : ConnC) (s : Int) (h1 : -9223372036854775808 ≤ s) (h2 : s ≤ 9223372036854775807) (A : Option Addr) (n c : Nat) (xs : List Int) (hc : n ≤ c) (hm : c ≤ maxLen) (hX : ∀ x, x ∈ xs → In64 x) (A2 : Option Addr) (n2 c2 : Nat) (ys : List Int) (hc2 : n2 ≤ c2) (hm2 : c2 ≤ maxLen) (hY : ∀ x, x ∈ ys → In64 x) (w : World)
    (hI : RdG eZ w w.heap.size A n xs) (hJ : RdG eZ w w.heap.size A2 n2 ys) :
    Calls Try.prog 5 #[.int .i64 s, .slice A n c, .slice A2 n2 c2] w fun e w' => e = .returned (.bool true) ∧ Below w.heap.size w w' := by
  have HA := Lib.hid (fun W => awake_any S W)
  have HI := Lib.hid hI
  have HJ := Lib.hid hJ
  by_cases hn : n ≤ 1000 ∧ n2 ≤ 1000
  case neg =>
    clear hc hm hX hc2 hm2 hY hI hJ HI HJ S
    by_cases hn1 : n ≤ 1000
    · have k1 : ¬ 1000 < (n : Int) := by omega
      have k2 : 1000 < (n2 : Int) := by omega
      go_enter Try.func5, Try.ntmps5
      go_wp2_with ((with_reducible refine (HA.out w).mono ?_); rintro e w1 ⟨rfl, hb⟩; have D1 := Lib.hid hb; clear hb)
      refine (HA.out w1).mono ?_
      rintro e w2 ⟨rfl, hb⟩
      have D2 := Lib.hid (bel2 D1.out hb)
      clear hb
      go_wp2_with fail
      go_ret
      exact ⟨rfl, D2.out⟩
    · have k1 : 1000 < (n : Int) := by omega
      go_enter Try.func5, Try.ntmps5
      go_wp2_with ((with_reducible refine (HA.out w).mono ?_); rintro e w1 ⟨rfl, hb⟩; have D1 := Lib.hid hb; clear hb)
      refine (HA.out w1).mono ?_
      rintro e w2 ⟨rfl, hb⟩
      have D2 := Lib.hid (bel2 D1.out hb)
      clear hb
      go_wp2_with fail
      go_ret
      exact ⟨rfl, D2.out⟩
  case pos =>
    have k1 : ¬ 1000 < (n : Int) := by omega
    have k2 : ¬ 1000 < (n2 : Int) := by omega
    have HSI := Lib.hid (show In64 s from ⟨h1, h2⟩)
    have HNX := Lib.hid (fun (t z : Int) (hz : In64 z) (W : World) => rnext20_any t z hz W)
    have HRU := Lib.hid (fun (W : World) (h : Below w.heap.size w W) => S.run s A n c xs W w.heap.size ⟨h1, h2⟩ (by omega) hc hm hX h.size (hI.below h))
    have HR2 := Lib.hid (fun (t : Int) (ht : In64 t) (W : World) (h : Below w.heap.size w W) => S.run t A2 n2 c2 ys W w.heap.size ht (by omega) hc2 hm2 hY h.size (hJ.below h))
    have HR3 := Lib.hid (fun (W : World) (A3 : Option Addr) (n3 c3 : Nat) (zs : List Int) (hn3 : n3 ≤ 2000) (hc3 : n3 ≤ c3) (hm3 : c3 ≤ maxLen) (hz : ∀ z, z ∈ zs → In64 z) (h : RdG eZ W W.heap.size A3 n3 zs) => S.run s A3 n3 c3 zs W W.heap.size ⟨h1, h2⟩ hn3 hc3 hm3 hz (Nat.le_refl _) h)
    have HXX := Lib.hid hX
    have HYY := Lib.hid hY
    have hn1 := hn.1
    have HNN := Lib.hid hn
    clear hc hm hX hc2 hm2 hY hI hJ S h1 h2 hn
    go_enter Try.func5, Try.ntmps5
    go_wp2_with ((with_reducible refine (HA.out w).mono ?_); rintro e w1 ⟨rfl, hb⟩; have D1 := Lib.hid hb; clear hb)
    go_loopw [7, 8] (fun t i wr => ∃ k : Nat, k ≤ n ∧ i = .int .i64 (k : Int) ∧ t = .int .i64 (stR s (xs.take k)) ∧ Below w.heap.size w wr)
      (fun _ i _ => n - (intOf i).toNat)
    case atStart => exact ⟨0, Nat.zero_le _, rfl, rfl, D1.out⟩
    case round =>
      obtain ⟨k, hk, rfl, rfl, hbel⟩ := hrel
      have HB := Lib.hid hbel
      clear hbel
      by_cases hlt : k < n
      · have h1 : (k : Int) < (n : Int) := by omega
        have h0 : (0 : Int) ≤ (k : Int) := by omega
        obtain ⟨b, off, rfl, _⟩ := HI.out.addr (by omega)
        obtain ⟨x, hx⟩ : ∃ x, xs[k]? = some x := ⟨_, List.getElem?_eq_getElem (by rw [HI.out.len]; exact hlt)⟩
        have q1 := (HI.out.below HB.out).cell1 hx (u := .int .i64 x) rfl
        have HS := Lib.hid (stR_succ (s := s) hx)
        obtain ⟨t, ht⟩ : ∃ t, stR s (xs.take k) = t := ⟨_, rfl⟩
        rw [ht] at HS ⊢
        have HCK := Lib.hid (HNX.out t x (HXX.out x (List.mem_of_getElem? hx)))
        have HLT := Lib.hid hlt
        clear hx ht hk hlt
        go_wp2_with ((with_reducible refine (HCK.out _).mono ?_); rintro e w' ⟨rfl, rfl⟩)
        go_roundw
        case rel => exact ⟨k + 1, HLT.out, (by have := HLT.out; go_num), by rw [HS.out], HB.out⟩
        case measure =>
          have := HLT.out
          simp [intOf]
          omega
      · obtain rfl : k = n := by omega
        have h1 : ¬ (k : Int) < (k : Int) := by omega
        have he : xs.take k = xs := by rw [← HI.out.len]; exact List.take_length
        rw [he]
        have HAP := Lib.hid (stR_app s xs ys)
        have HT := Lib.hid (in64_stR HSI.out xs)
        obtain ⟨t, ht⟩ : ∃ t, stR s xs = t := ⟨_, rfl⟩
        rw [ht] at HAP HT HRU ⊢
        have HR4 := Lib.hid (HR2.out t HT.out)
        obtain ⟨v, hv⟩ : ∃ v, stR t ys = v := ⟨_, rfl⟩
        rw [hv] at HAP HR4
        have e1 : (t == t) = true := by simp
        have e2 : (v == v) = true := by simp
        have HBS := HB.out.size
        clear ht hv he hlt hk hn1
        go_wp2_with (first
          | ((with_reducible refine (HRU.out wr HB.out).mono ?_); rintro e w2 ⟨rfl, hb⟩; have D2 := Lib.hid (HB.out.trans (hb.mono HB.out.size)); clear hb)
          | ((with_reducible show wpList _ _ _ (⟨some 42, _, _, _, _, _⟩ :: _) _ _); refine wpList_appendG eZ rfl _ _ rfl w2.heap.size _ [] (by rfl) (OwnG.empty eZ w2 (Nat.le_refl _)) w.heap.size A k c xs (by rfl) ((HI.out.below D2.out).alloc D2.out.size _) (by have := HNN.out; simp; omega) (by rw [World.size_alloc]; omega) ?_; intro v6 W6 ho6 hg6 hv6; rw [List.nil_append] at ho6; have HO6 := Lib.hid ho6; have HZ6 := Lib.hid (show w2.heap.size ≤ W6.heap.size by have h9 := hg6.size; rw [World.size_alloc] at h9; omega); have D6 := Lib.hid ((D2.out.alloc D2.out.size (.cells #[] 3)).grown hg6 (by rw [World.size_alloc]; exact Nat.le_trans D2.out.size (Nat.le_succ _)) (fun r hr => by cases hr; exact D2.out.size)); clear ho6 hg6 hv6)
          | ((with_reducible show wpList _ _ _ (⟨some 44, _, _, _, _, _⟩ :: _) _ _); refine wpList_appendG eZ rfl _ _ rfl w2.heap.size v6 xs (by rfl) HO6.out w.heap.size A2 n2 c2 ys (by rfl) (HJ.out.below D6.out) (by have := HNN.out; have h9 := HI.out.len; omega) HZ6.out ?_; intro v7 W7 ho7 hg7 hv7; have D7 := Lib.hid (D6.out.grown hg7 D6.out.size (fun r hr => by have h9 := HO6.out.lt r hr; have h8 := D2.out.size; omega)); obtain ⟨A7, m7, c7, rfl, e7, q7, r7, rd7, _⟩ := ho7.sl; have HE7 := Lib.hid e7; have HQ7 := Lib.hid q7; have HM7 := Lib.hid r7; have HR7 := Lib.hid rd7; clear ho7 hg7 hv7 e7 q7 r7 rd7)
          | ((with_reducible refine (HR4.out W7 D7.out).mono ?_); rintro e w8 ⟨rfl, hb⟩; have D8 := Lib.hid (D7.out.trans (hb.mono D7.out.size)); have HR8 := Lib.hid ((HR7.out.below hb).more hb.size); clear hb)
          | (have hall := HR3.out w8 A7 m7 c7 (xs ++ ys) (by have h9 := HE7.out; rw [List.length_append] at h9; have h8 := HI.out.len; have h7 := HJ.out.len; have h6 := HNN.out; omega) HQ7.out HM7.out (fun z hz => (List.mem_append.1 hz).elim (HXX.out z) (HYY.out z)) HR8.out; rw [HAP.out] at hall; (with_reducible refine hall.mono ?_); rintro e w9 ⟨rfl, hb⟩; have D9 := Lib.hid (D8.out.trans (hb.mono D8.out.size)); clear hall hb))
        go_ret
        exact ⟨rfl, D9.out⟩
end Go.Proofs.Ytljmegmklfohjaa
