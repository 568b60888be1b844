/-
  HealthSets: its walk, the program's contracts a premise.
-/
import Derived.Test.YteljijjebocbiaaYLaw
namespace Go.Proofs.Yteljijjebocbiaa
set_option maxRecDepth 100000
open Go.RowKit Go.Lib

set_option maxHeartbeats 8000000 in
theorem healthSets_walkW (S : HealthC) (A : Option Addr) (n c : Nat) (l : List Hl) (hc : n ≤ c) (hm : c ≤ maxLen) (hX : ∀ x, x ∈ l → HlOk x) (s0 : ByteArray) (_hs : s0.size ≤ maxLen) (b : Bool) (rise : Int) (r1 : -9223372036854775808 ≤ rise) (r2 : rise ≤ 9223372036854775807) (fall : Int) (f1 : -9223372036854775808 ≤ fall) (f2 : fall ≤ 9223372036854775807) (w : World) (hI : RdG eH w w.heap.size A n l) :
    Calls Try.prog 8 #[.slice A n c, .string s0, .bool b, .int .i64 rise, .int .i64 fall] w fun e w' => e = .returned (.bool true) ∧ Below w.heap.size w w' := by
  obtain ⟨s, rfl⟩ : ∃ l : List UInt8, s0 = ⟨l.toArray⟩ := ⟨s0.data.toList, by rw [Array.toArray_toList]⟩
  clear _hs
  have HB := Lib.hid (Below.refl w.heap.size w)
  have HAW := Lib.hid (fun W => awake_any S W)
  have PR : Hid (∀ W, Below w.heap.size w W → RdG eH W w.heap.size A n l) := Lib.hid (fun W hW => hI.below hW)
  obtain ⟨F, hF⟩ : ∃ F, fewK (nmsH l) = F := ⟨_, rfl⟩
  have HFE := Lib.hid hF
  have HFW : Hid (∀ W, Below w.heap.size w W → Calls Try.prog 15 #[.slice A n c] W fun e w' => e = .returned (.bool F) ∧ w' = W) := Lib.hid (by rw [← hF]; exact fun W hW => rfewH_any c (big_max hc hm) W (PR.out W hW))
  have HLE := Lib.hid hI.len
  have HOK := Lib.hid (fun h => few_l (l := l) h hX)
  obtain ⟨m, hm9⟩ : ∃ m, s.length = m := ⟨_, rfl⟩
  have hs : (ByteArray.mk s.toArray).size = m := by rw [← hm9]; rfl
  have HP : Hid (n ≤ 50 → (∀ x, x ∈ l → InR x ∧ x.nm.length ≤ 60) → m ≤ 60 → ∀ W, Below w.heap.size w W → Calls Try.prog 23 #[.slice A n c, .string ⟨s.toArray⟩, .bool b, .int .i64 rise, .int .i64 fall] W (SetGave W rise fall b s l)) := Lib.hid (by rw [← hm9]; exact fun h1 h2 h3 W hW => S.set A n c l s b rise fall W h1 hc hm h2 h3 r1 r2 f1 f2 ((PR.out W hW).more hW.size))
  have HR : Hid (n ≤ 50 → (∀ x, x ∈ l → InR x ∧ x.nm.length ≤ 60) → ∀ W, Below w.heap.size w W → Calls Try.prog 24 #[.slice A n c, .string ⟨s.toArray⟩, .bool b, .int .i64 rise, .int .i64 fall] W (SetGave W rise fall b s l)) := Lib.hid (fun h1 h2 W hW => rsetH_any c (by omega) (fun x hx => (h2 x hx).1) s b rise fall W hW.size (PR.out W hW))
  unfold SetGave at HP HR
  obtain ⟨tn, htn⟩ : ∃ t, setT (fun h => (stepH rise fall h b).2) (placeH (nmsH l) s) l = t := ⟨_, rfl⟩
  obtain ⟨er, her⟩ : ∃ t, setE (placeH (nmsH l) s) = t := ⟨_, rfl⟩
  obtain ⟨LL, hLL⟩ : ∃ t, setL (fun h => (stepH rise fall h b).1) (placeH (nmsH l) s) l = t := ⟨_, rfl⟩
  have HLL : Hid (LL.length = n) := Lib.hid (by rw [← hLL, setL_len, HLE.out])
  simp only [htn, her, hLL] at HP HR
  have ht1 : (tn == tn) = true := by simp
  have ht2 : (er == er) = true := by simp
  clear hF hc hm hX hI S htn her hLL hm9 r1 r2 f1 f2
  cases F
  · skip
    go_enter Try.func8, Try.ntmps8
    go_wp2_with (first | ((with_reducible refine (HAW.out w).mono ?_); rintro e w1 ⟨rfl, hb⟩; have D1 := Lib.hid hb; clear hb) | ((with_reducible refine (HFW.out w1 D1.out).mono ?_); rintro e w2 ⟨rfl, h2⟩; have D2 := Lib.hid (show Below w.heap.size w w2 by rw [h2]; exact D1.out); clear h2))
    refine (HAW.out _).mono ?_
    rintro e wz ⟨rfl, hz⟩
    go_wp2_with fail
    go_ret
    exact ⟨rfl, HB.out.trans ((bel2 D2.out hz).mono HB.out.size)⟩
  obtain ⟨hn, hok⟩ := HOK.out HFE.out
  rw [HLE.out] at hn
  by_cases hl : 60 < m
  · have hl1 : 60 < (m : Int) := by omega
    clear hl hok
    go_enter Try.func8, Try.ntmps8
    go_wp2_with (first | ((with_reducible refine (HAW.out w).mono ?_); rintro e w1 ⟨rfl, hb⟩; have D1 := Lib.hid hb; clear hb) | ((with_reducible refine (HFW.out w1 D1.out).mono ?_); rintro e w2 ⟨rfl, h2⟩; have D2 := Lib.hid (show Below w.heap.size w w2 by rw [h2]; exact D1.out); clear h2))
    refine (HAW.out _).mono ?_
    rintro e wz ⟨rfl, hz⟩
    go_wp2_with fail
    go_ret
    exact ⟨rfl, HB.out.trans ((bel2 D2.out hz).mono HB.out.size)⟩
  have hl1 : ¬ 60 < (m : Int) := by omega
  have HP9 := Lib.hid (HP.out hn hok (by omega))
  have HR9 := Lib.hid (HR.out hn hok)
  have HNN := Lib.hid hn
  clear HP HR hl hok hn
  go_enter Try.func8, Try.ntmps8
  go_wp2_with (first
    | ((with_reducible refine (HAW.out w).mono ?_); rintro e w1 ⟨rfl, hb⟩; have D1 := Lib.hid hb; clear hb)
    | ((with_reducible refine (HFW.out w1 D1.out).mono ?_); rintro e w2 ⟨rfl, h2⟩; have D2 := Lib.hid (show Below w.heap.size w w2 by rw [h2]; exact D1.out); clear h2)
    | ((with_reducible refine (HP9.out w2 D2.out).mono ?_); rintro e w3 ⟨v3, rfl, ho3, hb⟩; obtain ⟨A3, n3, c3, rfl, e3, q3, m3, ow3⟩ := own_any ho3; have O3 := Lib.hid ow3; have E3 := Lib.hid e3; have Q3 := Lib.hid q3; have M3 := Lib.hid m3; clear e3 q3 m3 ow3 ho3; have D3 := Lib.hid (bel2 D2.out hb); clear hb)
    | ((with_reducible refine (HR9.out w3 D3.out).mono ?_); rintro e w4 ⟨v4, rfl, ho4, hb⟩; have O3 := Lib.hid (O3.out.below hb); obtain ⟨A4, n4, c4, rfl, e4, q4, m4, ow4⟩ := own_any ho4; have O4 := Lib.hid ow4; have E4 := Lib.hid e4; have Q4 := Lib.hid q4; have M4 := Lib.hid m4; clear e4 q4 m4 ow4 ho4; have D4 := Lib.hid (bel2 D3.out hb); clear hb)
    | ((with_reducible refine (same_self O3.out O4.out (by rw [HLL.out]; have := HNN.out; omega)).mono ?_); rintro e w5 ⟨rfl, hb⟩; have O3 := Lib.hid (O3.out.below hb); have O4 := Lib.hid (O4.out.below hb); have D5 := Lib.hid (bel2 D4.out hb); clear hb))
  go_ret
  exact ⟨rfl, D5.out⟩
end Go.Proofs.Yteljijjebocbiaa
