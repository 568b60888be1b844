/-
  HealthSyncs: its walk, the program's contracts a premise.
-/
import Derived.Test.YteljijjebocbiaaYLaw
namespace Go.Proofs.Yteljijjebocbiaa
set_option maxRecDepth 100000
open Go.RowKit Go.Lib

set_option maxHeartbeats 8000000 in
theorem healthSyncs_walkW (S : HealthC) (A : Option Addr) (n c : Nat) (l : List Hl) (hc : n ≤ c) (hm : c ≤ maxLen) (hX : ∀ x, x ∈ l → HlOk x) (A2 : Option Addr) (n2 c2 : Nat) (ns : List (List UInt8)) (hc2 : n2 ≤ c2) (hm2 : c2 ≤ maxLen) (_hX2 : ∀ x, x ∈ ns → x.length ≤ maxLen) (w : World) (hI : RdG eH w w.heap.size A n l) (hI2 : RdG eN w w.heap.size A2 n2 ns) :
    Calls Try.prog 7 #[.slice A n c, .slice A2 n2 c2] w fun e w' => e = .returned (.bool true) ∧ Below w.heap.size w w' := by
  have HB := Lib.hid (Below.refl w.heap.size w)
  have HAW := Lib.hid (fun W => awake_any S W)
  have PR : Hid (∀ W, Below w.heap.size w W → RdG eH W w.heap.size A n l) := Lib.hid (fun W hW => hI.below hW)
  obtain ⟨F, hF⟩ : ∃ F, fewK (nmsH l) = F := ⟨_, rfl⟩
  have HFE := Lib.hid hF
  have HFW : Hid (∀ W, Below w.heap.size w W → Calls Try.prog 15 #[.slice A n c] W fun e w' => e = .returned (.bool F) ∧ w' = W) := Lib.hid (by rw [← hF]; exact fun W hW => rfewH_any c (big_max hc hm) W (PR.out W hW))
  have HLE := Lib.hid hI.len
  have PR2 : Hid (∀ W, Below w.heap.size w W → RdG eN W w.heap.size A2 n2 ns) := Lib.hid (fun W hW => hI2.below hW)
  obtain ⟨F2, hF2⟩ : ∃ F, fewK ns = F := ⟨_, rfl⟩
  have HFE2 := Lib.hid hF2
  have HLE2 := Lib.hid hI2.len
  have HSW : Hid (∀ W, Below w.heap.size w W → Calls Try.prog 16 #[.slice A2 n2 c2] W fun e w' => e = .returned (.bool F2) ∧ w' = W) := Lib.hid (by rw [← hF2]; exact fun W hW => rshort_any c2 (big_max hc2 hm2) W (PR2.out W hW))
  have HOK := Lib.hid (fun h => few_l (l := l) h hX)
  have HP : Hid (n ≤ 50 → n2 ≤ 50 → (∀ x, x ∈ l → InR x ∧ x.nm.length ≤ 60) → (∀ s, s ∈ ns → s.length ≤ 60) → ∀ W, Below w.heap.size w W → Calls Try.prog 17 #[.slice A n c, .slice A2 n2 c2] W (SyncGave W l ns)) := Lib.hid (fun h1 h2 h3 h4 W hW => S.sync A A2 n n2 c c2 l ns W h1 h2 hc hm hc2 hm2 h3 h4 ((PR.out W hW).more hW.size) ((PR2.out W hW).more hW.size))
  have HP2 : Hid (n2 ≤ 50 → (∀ s, s ∈ ns → s.length ≤ 60) → ∀ W, Below w.heap.size w W → ∀ (A3 : Option Addr) (n3 c3 : Nat) (LL : List Hl), n3 ≤ 50 → n3 ≤ c3 → c3 ≤ maxLen → (∀ x, x ∈ LL → InR x ∧ x.nm.length ≤ 60) → RdG eH W W.heap.size A3 n3 LL → Calls Try.prog 17 #[.slice A3 n3 c3, .slice A2 n2 c2] W (SyncGave W LL ns)) := Lib.hid (fun h2 h4 W hW A3 n3 c3 LL h5 h6 h7 h8 h9 => S.sync A3 A2 n3 n2 c3 c2 LL ns W h5 h2 h6 h7 hc2 hm2 h8 h4 h9 ((PR2.out W hW).more hW.size))
  have HR : Hid (n ≤ 50 → n2 ≤ 50 → ∀ W, Below w.heap.size w W → Calls Try.prog 19 #[.slice A n c, .slice A2 n2 c2] W (SyncGave W l ns)) := Lib.hid (fun h1 h2 W hW => rsync_any c c2 (by omega) (by omega) W hW.size hW.size (PR.out W hW) (PR2.out W hW))
  have HDP : Hid (n ≤ 50 → (∀ x, x ∈ l → InR x ∧ x.nm.length ≤ 60) → ∀ W, Below w.heap.size w W → Calls Try.prog 21 #[.slice A n c] W (fun e w' => ∃ r, e = .returned r ∧ OwnG eN w' W.heap.size r (downL l) ∧ Below W.heap.size W w')) := Lib.hid (fun h1 h2 W hW => S.down A n c l W h1 hc hm h2 ((PR.out W hW).more hW.size))
  have HDR : Hid (n ≤ 50 → ∀ W, Below w.heap.size w W → Calls Try.prog 22 #[.slice A n c] W (fun e w' => ∃ r, e = .returned r ∧ OwnG eN w' W.heap.size r (downL l) ∧ Below W.heap.size W w')) := Lib.hid (fun h1 W hW => rdown_any c (by omega) W hW.size (PR.out W hW))
  unfold SyncGave at HP HP2 HR
  have HDL : Hid ((downL l).length ≤ n) := Lib.hid (by have := down_len l n; rwa [List.take_of_length_le (Nat.le_of_eq HLE.out)] at this)
  clear hF hF2 hc hm hc2 hm2 hX _hX2 hI hI2 S
  cases F
  · skip
    go_enter Try.func7, Try.ntmps7
    go_wp2_with (first | ((with_reducible refine (HAW.out w).mono ?_); rintro e w1 ⟨rfl, hb⟩; have D1 := Lib.hid hb; clear hb) | ((with_reducible refine (HFW.out w1 D1.out).mono ?_); rintro e w2 ⟨rfl, h2⟩; have D2 := Lib.hid (show Below w.heap.size w w2 by rw [h2]; exact D1.out); clear h2))
    refine (HAW.out _).mono ?_
    rintro e wz ⟨rfl, hz⟩
    go_wp2_with fail
    go_ret
    exact ⟨rfl, HB.out.trans ((bel2 D2.out hz).mono HB.out.size)⟩
  cases F2
  · skip
    go_enter Try.func7, Try.ntmps7
    go_wp2_with (first | ((with_reducible refine (HAW.out w).mono ?_); rintro e w1 ⟨rfl, hb⟩; have D1 := Lib.hid hb; clear hb) | ((with_reducible refine (HFW.out w1 D1.out).mono ?_); rintro e w2 ⟨rfl, h2⟩; have D2 := Lib.hid (show Below w.heap.size w w2 by rw [h2]; exact D1.out); clear h2) | ((with_reducible refine (HSW.out w2 D2.out).mono ?_); rintro e w3 ⟨rfl, h2⟩; have D3 := Lib.hid (show Below w.heap.size w w3 by rw [h2]; exact D2.out); clear h2))
    refine (HAW.out _).mono ?_
    rintro e wz ⟨rfl, hz⟩
    go_wp2_with fail
    go_ret
    exact ⟨rfl, HB.out.trans ((bel2 D3.out hz).mono HB.out.size)⟩
  obtain ⟨hn, hok⟩ := HOK.out HFE.out
  obtain ⟨hn2, hok2⟩ := (fewK_iff _).1 HFE2.out
  have HSO := Lib.hid (sync_ok hok hok2)
  have HSN := Lib.hid (sync_few (l := l) hn2)
  have HTW := Lib.hid (sync_twice l ns)
  rw [HLE.out] at hn
  rw [HLE2.out] at hn2
  have HP9 := Lib.hid (HP.out hn hn2 hok hok2)
  have HPB := Lib.hid (HP2.out hn2 hok2)
  have HR9 := Lib.hid (HR.out hn hn2)
  have HDP9 := Lib.hid (HDP.out hn hok)
  have HDR9 := Lib.hid (HDR.out hn)
  have HNN := Lib.hid hn
  obtain ⟨LL, hLL⟩ : ∃ t, syncL l ns = t := ⟨_, rfl⟩
  obtain ⟨DL, hDL⟩ : ∃ t, downL l = t := ⟨_, rfl⟩
  rw [hLL] at HP9 HR9 HSO HSN HTW
  rw [hDL] at HDP9 HDR9 HDL
  clear HP HP2 HR HDP HDR hok hok2 hn hn2 hLL hDL
  go_enter Try.func7, Try.ntmps7
  go_wp2_with (first
    | ((with_reducible refine (HAW.out w).mono ?_); rintro e w1 ⟨rfl, hb⟩; have D1 := Lib.hid hb; clear hb)
    | ((with_reducible refine (HFW.out w1 D1.out).mono ?_); rintro e w2 ⟨rfl, h2⟩; have D2 := Lib.hid (show Below w.heap.size w w2 by rw [h2]; exact D1.out); clear h2)
    | ((with_reducible refine (HSW.out w2 D2.out).mono ?_); rintro e w3 ⟨rfl, h2⟩; have D3 := Lib.hid (show Below w.heap.size w w3 by rw [h2]; exact D2.out); clear h2)
    | ((with_reducible refine (HP9.out w3 D3.out).mono ?_); rintro e w4 ⟨v4, rfl, ho4, hb⟩; obtain ⟨A4, n4, c4, rfl, e4, q4, m4, ow4⟩ := own_any ho4; have O4 := Lib.hid ow4; have E4 := Lib.hid e4; have Q4 := Lib.hid q4; have M4 := Lib.hid m4; clear e4 q4 m4 ow4 ho4; have D4 := Lib.hid (bel2 D3.out hb); clear hb)
    | ((with_reducible refine (HR9.out w4 D4.out).mono ?_); rintro e w5 ⟨v5, rfl, ho5, hb⟩; have O4 := Lib.hid (O4.out.below hb); obtain ⟨A5, n5, c5, rfl, e5, q5, m5, ow5⟩ := own_any ho5; have O5 := Lib.hid ow5; have E5 := Lib.hid e5; have Q5 := Lib.hid q5; have M5 := Lib.hid m5; clear e5 q5 m5 ow5 ho5; have D5 := Lib.hid (bel2 D4.out hb); clear hb)
    | ((with_reducible refine (same_self O4.out O5.out (by have := HSN.out; omega)).mono ?_); rintro e w6 ⟨rfl, hb⟩; have O4 := Lib.hid (O4.out.below hb); have O5 := Lib.hid (O5.out.below hb); have D6 := Lib.hid (bel2 D5.out hb); clear hb)
    | ((with_reducible refine (HPB.out w6 D6.out A4 n4 c4 LL (by rw [E4.out]; exact HSN.out) Q4.out M4.out HSO.out O4.out.rd).mono ?_); rintro e w7 ⟨v7, rfl, ho7, hb⟩; have O4 := Lib.hid (O4.out.below hb); have O5 := Lib.hid (O5.out.below hb); rw [HTW.out] at ho7; obtain ⟨A7, n7, c7, rfl, e7, q7, m7, ow7⟩ := own_any ho7; have O7 := Lib.hid ow7; have E7 := Lib.hid e7; have Q7 := Lib.hid q7; have M7 := Lib.hid m7; clear e7 q7 m7 ow7 ho7; have D7 := Lib.hid (bel2 D6.out hb); clear hb)
    | ((with_reducible refine (same_self O7.out O4.out (by have := HSN.out; omega)).mono ?_); rintro e w8 ⟨rfl, hb⟩; have O4 := Lib.hid (O4.out.below hb); have O5 := Lib.hid (O5.out.below hb); have O7 := Lib.hid (O7.out.below hb); have D8 := Lib.hid (bel2 D7.out hb); clear hb)
    | ((with_reducible refine (HDP9.out w8 D8.out).mono ?_); rintro e w9 ⟨v9, rfl, ho9, hb⟩; have O4 := Lib.hid (O4.out.below hb); have O5 := Lib.hid (O5.out.below hb); have O7 := Lib.hid (O7.out.below hb); obtain ⟨A9, n9, c9, rfl, e9, q9, m9, ow9⟩ := own_any ho9; have O9 := Lib.hid ow9; have E9 := Lib.hid e9; have Q9 := Lib.hid q9; have M9 := Lib.hid m9; clear e9 q9 m9 ow9 ho9; have D9 := Lib.hid (bel2 D8.out hb); clear hb)
    | ((with_reducible refine (HDR9.out w9 D9.out).mono ?_); rintro e w10 ⟨v10, rfl, ho10, hb⟩; have O4 := Lib.hid (O4.out.below hb); have O5 := Lib.hid (O5.out.below hb); have O7 := Lib.hid (O7.out.below hb); have O9 := Lib.hid (O9.out.below hb); obtain ⟨A10, n10, c10, rfl, e10, q10, m10, ow10⟩ := own_any ho10; have O10 := Lib.hid ow10; have E10 := Lib.hid e10; have Q10 := Lib.hid q10; have M10 := Lib.hid m10; clear e10 q10 m10 ow10 ho10; have D10 := Lib.hid (bel2 D9.out hb); clear hb)
    | ((with_reducible refine (texts_self O9.out O10.out (by have := HDL.out; have := HNN.out; omega)).mono ?_); rintro e w11 ⟨rfl, hb⟩; have O4 := Lib.hid (O4.out.below hb); have O5 := Lib.hid (O5.out.below hb); have O7 := Lib.hid (O7.out.below hb); have O9 := Lib.hid (O9.out.below hb); have O10 := Lib.hid (O10.out.below hb); have D11 := Lib.hid (bel2 D10.out hb); clear hb))
  go_ret
  exact ⟨rfl, D11.out⟩
end Go.Proofs.Yteljijjebocbiaa
