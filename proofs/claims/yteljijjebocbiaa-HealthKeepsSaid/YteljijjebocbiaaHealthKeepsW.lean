/-
  HealthKeeps: its walk, the program's contracts a premise.
-/
import Derived.Test.YteljijjebocbiaaYLaw
import Derived.Test.YteljijjebocbiaaStRow
namespace Go.Proofs.Yteljijjebocbiaa
set_option maxRecDepth 100000
open Go.RowKit Go.Lib

theorem kept_far {α : Type} {E : Enc α} {w w' : World} {base : Nat} {v : Value} {xs : List α} {row : Option Nat} (h : OwnG E w base v xs) (hg : w.grownBy w' row) (hr : ∀ g, row = some g → g < base) : OwnG E w' base v xs := by
  refine h.kept hg ?_
  cases hv : v.ownBlock with
  | none => exact .inl rfl
  | some g => exact .inr (fun e => by have h1 := h.lt g hv; have h2 := hr g e.symm; omega)
theorem same_ref {A A' : Option Addr} {n n' B' : Nat} {l : List Hl} (W : World) (c c' : Nat) (hn : n ≤ 9223372036854775807) (hB' : B' ≤ W.heap.size) (h : RdG eH W W.heap.size A n l) (h' : RdG eH W B' A' n' l) :
    Calls Try.prog 18 #[.slice A n c, .slice A' n' c'] W fun e w' => e = .returned (.bool true) ∧ Below W.heap.size W w' := by
  have h1 := rsameH_any c c' (n := n) (n' := n') (l := l) (m := l) hn W (Nat.le_refl _) hB' h h'
  rwa [sameH_iff.2 rfl] at h1
theorem texts_ref {A A' : Option Addr} {n n' B' : Nat} {l : List (List UInt8)} (W : World) (c c' : Nat) (hn : n ≤ 9223372036854775807) (h : RdG eN W W.heap.size A n l) (h' : RdG eN W B' A' n' l) :
    Calls Try.prog 20 #[.slice A n c, .slice A' n' c'] W fun e w' => e = .returned (.bool true) ∧ Below W.heap.size W w' := by
  have h1 := rtexts_any c c' (n := n) (n' := n') (l := l) (m := l) hn W h h'
  rwa [decide_eq_true rfl] at h1
theorem sizeS : (Try.prog.info? 9).map (·.size) = some 1 := by kernel_rfl
set_option maxHeartbeats 16000000 in
theorem healthKeeps_walkW (S : HealthC) (A : Option Addr) (n c : Nat) (l : List Hl) (hc : n ≤ c) (hm : c ≤ maxLen) (hX : ∀ x, x ∈ l → HlOk x) (A2 : Option Addr) (n2 c2 : Nat) (ns : List (List UInt8)) (hc2 : n2 ≤ c2) (hm2 : c2 ≤ maxLen) (_hX2 : ∀ x, x ∈ ns → x.length ≤ maxLen) (s0 : ByteArray) (_hs : s0.size ≤ maxLen) (w : World) (hI : RdG eH w w.heap.size A n l) (hI2 : RdG eN w w.heap.size A2 n2 ns) :
    Calls Try.prog 9 #[.slice A n c, .slice A2 n2 c2, .string s0] w fun e w' => e = .returned (.bool true) ∧ Below w.heap.size w w' := by
  obtain ⟨s, rfl⟩ : ∃ l : List UInt8, s0 = ⟨l.toArray⟩ := ⟨s0.data.toList, by rw [Array.toArray_toList]⟩
  clear _hs
  have HB := Lib.hid (Below.refl w.heap.size w)
  have HAW := Lib.hid (fun W => awake_any S W)
  have PR : Hid (∀ W, Below w.heap.size w W → RdG eH W w.heap.size A n l) := Lib.hid (fun W hW => hI.below hW)
  obtain ⟨F, hF⟩ : ∃ F, fewK (nmsH l) = F := ⟨_, rfl⟩
  have HFE := Lib.hid hF
  have HFW : Hid (∀ W, Below w.heap.size w W → Calls Try.prog 15 #[.slice A n c] W fun e w' => e = .returned (.bool F) ∧ w' = W) := Lib.hid (by rw [← hF]; exact fun W hW => rfewH_any c (big_max hc hm) W (PR.out W hW))
  have HLE := Lib.hid hI.len
  have PR2 : Hid (∀ W, Below w.heap.size w W → RdG eN W w.heap.size A2 n2 ns) := Lib.hid (fun W hW => hI2.below hW)
  obtain ⟨F2, hF2⟩ : ∃ F, fewK ns = F := ⟨_, rfl⟩
  have HFE2 := Lib.hid hF2
  have HLE2 := Lib.hid hI2.len
  have HSW : Hid (∀ W, Below w.heap.size w W → Calls Try.prog 16 #[.slice A2 n2 c2] W fun e w' => e = .returned (.bool F2) ∧ w' = W) := Lib.hid (by rw [← hF2]; exact fun W hW => rshort_any c2 (big_max hc2 hm2) W (PR2.out W hW))
  have HOK := Lib.hid (fun h => few_l (l := l) h hX)
  obtain ⟨m, hm9⟩ : ∃ m, s.length = m := ⟨_, rfl⟩
  have hs : (ByteArray.mk s.toArray).size = m := by rw [← hm9]; rfl
  have PRE : Hid (n ≤ c ∧ c ≤ maxLen ∧ n2 ≤ c2 ∧ c2 ≤ maxLen ∧ s.length = m) := Lib.hid ⟨hc, hm, hc2, hm2, hm9⟩
  clear hF hF2 hc hm hc2 hm2 hX _hX2 hI hI2 hm9
  cases F
  · skip
    go_enter Try.func9, Try.ntmps9
    go_wp2_with (first | ((with_reducible refine (HAW.out w).mono ?_); rintro e w1 ⟨rfl, hb⟩; have D1 := Lib.hid hb; clear hb) | ((with_reducible refine (HFW.out w1 D1.out).mono ?_); rintro e w2 ⟨rfl, h2⟩; have D2 := Lib.hid (show Below w.heap.size w w2 by rw [h2]; exact D1.out); clear h2))
    refine (HAW.out _).mono ?_
    rintro e wz ⟨rfl, hz⟩
    go_wp2_with fail
    go_ret
    exact ⟨rfl, HB.out.trans ((bel2 D2.out hz).mono HB.out.size)⟩
  cases F2
  · skip
    go_enter Try.func9, Try.ntmps9
    go_wp2_with (first | ((with_reducible refine (HAW.out w).mono ?_); rintro e w1 ⟨rfl, hb⟩; have D1 := Lib.hid hb; clear hb) | ((with_reducible refine (HFW.out w1 D1.out).mono ?_); rintro e w2 ⟨rfl, h2⟩; have D2 := Lib.hid (show Below w.heap.size w w2 by rw [h2]; exact D1.out); clear h2) | ((with_reducible refine (HSW.out w2 D2.out).mono ?_); rintro e w3 ⟨rfl, h2⟩; have D3 := Lib.hid (show Below w.heap.size w w3 by rw [h2]; exact D2.out); clear h2))
    refine (HAW.out _).mono ?_
    rintro e wz ⟨rfl, hz⟩
    go_wp2_with fail
    go_ret
    exact ⟨rfl, HB.out.trans ((bel2 D3.out hz).mono HB.out.size)⟩
  obtain ⟨hn, hok⟩ := HOK.out HFE.out
  obtain ⟨hn2, hok2⟩ := (fewK_iff _).1 HFE2.out
  by_cases hl : 60 < m
  · have hl1 : 60 < (m : Int) := by omega
    clear hl hok hok2
    go_enter Try.func9, Try.ntmps9
    go_wp2_with (first | ((with_reducible refine (HAW.out w).mono ?_); rintro e w1 ⟨rfl, hb⟩; have D1 := Lib.hid hb; clear hb) | ((with_reducible refine (HFW.out w1 D1.out).mono ?_); rintro e w2 ⟨rfl, h2⟩; have D2 := Lib.hid (show Below w.heap.size w w2 by rw [h2]; exact D1.out); clear h2) | ((with_reducible refine (HSW.out w2 D2.out).mono ?_); rintro e w3 ⟨rfl, h2⟩; have D3 := Lib.hid (show Below w.heap.size w w3 by rw [h2]; exact D2.out); clear h2))
    refine (HAW.out _).mono ?_
    rintro e wz ⟨rfl, hz⟩
    go_wp2_with fail
    go_ret
    exact ⟨rfl, HB.out.trans ((bel2 D3.out hz).mono HB.out.size)⟩
  have hl1 : ¬ 60 < (m : Int) := by omega
  have hsl : s.length ≤ 60 := by have := PRE.out.2.2.2.2; omega
  obtain ⟨LL, hLL⟩ : ∃ t, syncL l ns = t := ⟨_, rfl⟩
  obtain ⟨DL, hDL⟩ : ∃ t, downL l = t := ⟨_, rfl⟩
  obtain ⟨SL, hSL⟩ : ∃ t, setL (fun h => (stepH 1 1 h false).1) (placeH (nmsH l) s) l = t := ⟨_, rfl⟩
  have NLL : Hid (LL.length ≤ 50) := Lib.hid (by rw [← hLL]; exact sync_few hn2)
  have NSL : Hid (SL.length ≤ 50) := Lib.hid (by rw [← hSL, setL_len]; exact hn)
  have NDL : Hid (DL.length ≤ 50) := Lib.hid (by rw [← hDL]; have := down_len l l.length; rw [List.take_length] at this; omega)
  have HSY : Hid (∀ (W : World) (P P2 : Option Addr) (a a2 d d2 : Nat), a = l.length → a2 = ns.length → a ≤ d → d ≤ maxLen → a2 ≤ d2 → d2 ≤ maxLen → RdG eH W W.heap.size P a l → RdG eN W W.heap.size P2 a2 ns → Calls Try.prog 17 #[.slice P a d, .slice P2 a2 d2] W fun e w' => ∃ r, e = .returned r ∧ OwnG eH w' W.heap.size r LL ∧ Below W.heap.size W w') := Lib.hid (by
    rw [← hLL]
    exact fun W P P2 a a2 d d2 h1 h2 h3 h4 h5 h6 h7 h8 => S.sync P P2 a a2 d d2 l ns W (by omega) (by omega) h3 h4 h5 h6 hok hok2 h7 h8)
  have HSE : Hid (∀ (W : World) (P : Option Addr) (a d : Nat), a = l.length → a ≤ d → d ≤ maxLen → RdG eH W W.heap.size P a l → Calls Try.prog 23 #[.slice P a d, .string ⟨s.toArray⟩, .bool false, .int .i64 1, .int .i64 1] W fun e w' => ∃ r tn er, e = .returned (.tuple #[r, .bool tn, .int .i64 er]) ∧ OwnG eH w' W.heap.size r SL ∧ Below W.heap.size W w') := Lib.hid (by
    rw [← hSL]
    exact fun W P a d h1 h2 h3 h4 => (S.set P a d l s false 1 1 W (by omega) h2 h3 hok hsl (by decide) (by decide) (by decide) (by decide) h4).mono (fun e w' ⟨r, q1, q2, q3⟩ => ⟨r, _, _, q1, q2, q3⟩))
  have HDN : Hid (∀ (W : World) (P : Option Addr) (a d : Nat), a = l.length → a ≤ d → d ≤ maxLen → RdG eH W W.heap.size P a l → Calls Try.prog 21 #[.slice P a d] W fun e w' => ∃ r, e = .returned r ∧ OwnG eN w' W.heap.size r DL ∧ Below W.heap.size W w') := Lib.hid (by
    rw [← hDL]
    exact fun W P a d h1 h2 h3 h4 => S.down P a d l W (by omega) h2 h3 hok h4)
  have RSE : Hid (∀ W, Below w.heap.size w W → Calls Try.prog 24 #[.slice A n c, .string ⟨s.toArray⟩, .bool false, .int .i64 1, .int .i64 1] W fun e w' => ∃ r tn er, e = .returned (.tuple #[r, .bool tn, .int .i64 er]) ∧ OwnG eH w' W.heap.size r SL ∧ Below W.heap.size W w') := Lib.hid (by
    rw [← hSL]
    exact fun W hW => (rsetH_any c (by have := HLE.out; omega) (fun x hx => (hok x hx).1) s false 1 1 W hW.size (PR.out W hW)).mono (fun e w' ⟨r, q1, q2, q3⟩ => ⟨r, _, _, q1, q2, q3⟩))
  have RSY : Hid (∀ W, Below w.heap.size w W → Calls Try.prog 19 #[.slice A n c, .slice A2 n2 c2] W fun e w' => ∃ r, e = .returned r ∧ OwnG eH w' W.heap.size r LL ∧ Below W.heap.size W w') := Lib.hid (by
    rw [← hLL]
    exact fun W hW => rsync_any c c2 (by have := HLE.out; omega) (by have := HLE2.out; omega) W hW.size hW.size (PR.out W hW) (PR2.out W hW))
  have RDN : Hid (∀ W, Below w.heap.size w W → Calls Try.prog 22 #[.slice A n c] W fun e w' => ∃ r, e = .returned r ∧ OwnG eN w' W.heap.size r DL ∧ Below W.heap.size W w') := Lib.hid (by
    rw [← hDL]
    exact fun W hW => rdown_any c (by have := HLE.out; omega) W hW.size (PR.out W hW))
  have HNN : Hid (n ≤ 50 ∧ n2 ≤ 50) := Lib.hid ⟨by have := HLE.out; omega, by have := HLE2.out; omega⟩
  clear hLL hDL hSL hok hok2 hn hn2 hl hsl S
  go_enter Try.func9, Try.ntmps9
  go_wp2_with (first
    | ((with_reducible refine (HAW.out w).mono ?_); rintro e w1 ⟨rfl, hb⟩; have D1 := Lib.hid hb; clear hb)
    | ((with_reducible refine (HFW.out w1 D1.out).mono ?_); rintro e w2 ⟨rfl, h2⟩; have D2 := Lib.hid (show Below w.heap.size w w2 by rw [h2]; exact D1.out); clear h2)
    | ((with_reducible refine (HSW.out w2 D2.out).mono ?_); rintro e w3 ⟨rfl, h2⟩; have D3 := Lib.hid (show Below w.heap.size w w3 by rw [h2]; exact D2.out); clear h2)
    | ((with_reducible show wpList _ _ _ (⟨some 39, _, _, _, _, _⟩ :: _) _ _); refine wpList_appendG (o := ⟨some 39, _, _, _, _, _⟩) eH rfl _ _ rfl w3.heap.size _ [] (by rfl) (OwnG.empty eH w3 (Nat.le_refl _)) w.heap.size A n c l (by rfl) ((PR.out w3 D3.out).alloc D3.out.size _) (by have := HNN.out; simp only [List.length_nil]; omega) (by rw [World.size_alloc]; exact Nat.le_succ _) ?_; intro v4 w4 ho hg _; have hb9 := Lib.hid (((Below.refl w3.heap.size w3).alloc (Nat.le_refl _) _).grown hg (by rw [World.size_alloc]; exact Nat.le_succ _) (fun g h => (OwnG.empty eH w3 (Nat.le_refl _)).lt g h)); have hb := hb9.out; have D4 := Lib.hid (bel2 D3.out hb); obtain ⟨A4, n4, c4, rfl, e4, q4, m4, ow4⟩ := own_any (show OwnG eH w4 w3.heap.size v4 l from ho); have O4 := Lib.hid ow4; have E4 := Lib.hid e4; have Q4 := Lib.hid q4; have M4 := Lib.hid m4; have L4 : Hid (∀ g, (Value.slice A4 n4 c4).ownBlock = some g → g < w4.heap.size) := Lib.hid O4.out.ltS; clear ho e4 q4 m4 ow4; clear hg hb hb9)
    | ((with_reducible show wpList _ _ _ (⟨some 42, _, _, _, _, _⟩ :: _) _ _); refine wpList_appendG (o := ⟨some 42, _, _, _, _, _⟩) eN rfl _ _ rfl w4.heap.size _ [] (by rfl) (OwnG.empty eN w4 (Nat.le_refl _)) w.heap.size A2 n2 c2 ns (by rfl) ((PR2.out w4 D4.out).alloc D4.out.size _) (by have := HNN.out; simp only [List.length_nil]; omega) (by rw [World.size_alloc]; exact Nat.le_succ _) ?_; intro v5 w5 ho hg _; have hb9 := Lib.hid (((Below.refl w4.heap.size w4).alloc (Nat.le_refl _) _).grown hg (by rw [World.size_alloc]; exact Nat.le_succ _) (fun g h => (OwnG.empty eN w4 (Nat.le_refl _)).lt g h)); have hb := hb9.out; have O4 := Lib.hid (O4.out.below hb); have D5 := Lib.hid (bel2 D4.out hb); obtain ⟨A5, n5, c5, rfl, e5, q5, m5, ow5⟩ := own_any (show OwnG eN w5 w4.heap.size v5 ns from ho); have O5 := Lib.hid ow5; have E5 := Lib.hid e5; have Q5 := Lib.hid q5; have M5 := Lib.hid m5; have SZ5 := Lib.hid hb.size; have SW4 := Lib.hid D4.out.size; have L5 : Hid (∀ g, (Value.slice A5 n5 c5).ownBlock = some g → g < w5.heap.size) := Lib.hid O5.out.ltS; clear ho e5 q5 m5 ow5; clear hg hb hb9)
    | ((with_reducible refine (HSY.out w5 A4 A5 n4 n5 c4 c5 E4.out E5.out Q4.out M4.out Q5.out M5.out O4.out.rd O5.out.rd).mono ?_); rintro e w6 ⟨v6, rfl, ho6, hb⟩; have O4 := Lib.hid (O4.out.below hb); have O5 := Lib.hid (O5.out.below hb); have S6 := Lib.hid hb.size; obtain ⟨A6, n6, c6, rfl, e6, q6, m6, ow6⟩ := own_any ho6; have O6 := Lib.hid ow6; have E6 := Lib.hid e6; have Q6 := Lib.hid q6; have M6 := Lib.hid m6; clear e6 q6 m6 ow6 ho6; have D6 := Lib.hid (bel2 D5.out hb); clear hb)
    | ((with_reducible refine (HSE.out w6 A4 n4 c4 E4.out Q4.out M4.out O4.out.rd).mono ?_); rintro e w7 ⟨v7, tn7, er7, rfl, ho7, hb⟩; have O4 := Lib.hid (O4.out.below hb); have O5 := Lib.hid (O5.out.below hb); have O6 := Lib.hid (O6.out.below hb); have S7 := Lib.hid hb.size; have ho7b := ho7.base_le S6.out; clear ho7; obtain ⟨A7, n7, c7, rfl, e7, q7, m7, ow7⟩ := own_any ho7b; have O7 := Lib.hid ow7; have E7 := Lib.hid e7; have Q7 := Lib.hid q7; have M7 := Lib.hid m7; clear e7 q7 m7 ow7 ho7b; have D7 := Lib.hid (bel2 D6.out hb); clear hb)
    | ((with_reducible refine (HDN.out w7 A4 n4 c4 E4.out Q4.out M4.out O4.out.rd).mono ?_); rintro e w8 ⟨v8, rfl, ho8, hb⟩; have O4 := Lib.hid (O4.out.below hb); have O5 := Lib.hid (O5.out.below hb); have O6 := Lib.hid (O6.out.below hb); have O7 := Lib.hid (O7.out.below hb); have ho8b := ho8.base_le (Nat.le_trans S6.out S7.out); clear ho8; obtain ⟨A8, n8, c8, rfl, e8, q8, m8, ow8⟩ := own_any ho8b; have O8 := Lib.hid ow8; have E8 := Lib.hid e8; have Q8 := Lib.hid q8; have M8 := Lib.hid m8; clear e8 q8 m8 ow8 ho8b; have D8 := Lib.hid (bel2 D7.out hb); clear hb)
    | ((with_reducible refine (same_ref w8 c4 c (by have := E4.out; have := HLE.out; have := HNN.out; omega) D8.out.size O4.out.rd (PR.out w8 D8.out)).mono ?_); rintro e w9 ⟨rfl, hb⟩; have O4 := Lib.hid (O4.out.below hb); have O5 := Lib.hid (O5.out.below hb); have O6 := Lib.hid (O6.out.below hb); have O7 := Lib.hid (O7.out.below hb); have O8 := Lib.hid (O8.out.below hb); have D9 := Lib.hid (bel2 D8.out hb); clear hb)
    | ((with_reducible refine (texts_ref w9 c5 c2 (by have := E5.out; have := HLE2.out; have := HNN.out; omega) O5.out.rd (PR2.out w9 D9.out)).mono ?_); rintro e w10 ⟨rfl, hb⟩; have O4 := Lib.hid (O4.out.below hb); have O5 := Lib.hid (O5.out.below hb); have O6 := Lib.hid (O6.out.below hb); have O7 := Lib.hid (O7.out.below hb); have O8 := Lib.hid (O8.out.below hb); have D10 := Lib.hid (bel2 D9.out hb); clear hb))
  have S3 := Lib.hid D3.out.size
  have N4 : Hid (n4 ≤ 50) := Lib.hid (by have := E4.out; have := HLE.out; have := HNN.out; omega)
  have N5 : Hid (n5 ≤ 50) := Lib.hid (by have := E5.out; have := HLE2.out; have := HNN.out; omega)
  go_loopw [14] (fun i wr => ∃ k : Nat, k ≤ n4 ∧ i = .int .i64 (k : Int) ∧ w10.grownBy wr (Value.slice A4 n4 c4).ownBlock ∧ Hid (∀ go, A4 = some ⟨go, 0, none⟩ → wr.there go 0 (n4 * 3))) (fun i _ => n4 - (RowKit.intOf i).toNat)
  case atStart => exact ⟨0, Nat.zero_le _, rfl, World.grownBy.refl _ _, Lib.hid (fun go e => by subst e; exact there_own O4.out)⟩
  case round =>
    obtain ⟨k, hk, rfl, hg, hth⟩ := hrel
    have HG := Lib.hid hg
    clear hg
    by_cases hlt : k < n4
    · have h1 : (k : Int) < (n4 : Int) := by omega
      have h0 : (0 : Int) ≤ (k : Int) := by omega
      obtain ⟨go, hA, _⟩ : ∃ go, A4 = some ⟨go, 0, none⟩ ∧ w3.heap.size ≤ go := by
        obtain ⟨_, _, _, e, _, _, _, _, hg⟩ := O4.out.sl
        cases e
        obtain ⟨g, e, h1, _⟩ := hg (Nat.lt_of_le_of_lt (Nat.zero_le _) hlt)
        exact ⟨g, e, h1⟩
      subst hA
      have HTH := Lib.hid (hth.out go rfl)
      have HLTN := Lib.hid hlt
      have hk9 : k < 9223372036854775807 := by have := N4.out; omega
      have HLE9 := Lib.hid (show k * 3 + eH.k ≤ n4 * 3 by show k * 3 + 3 ≤ n4 * 3; omega)
      clear hth hlt
      go_wp2_with (first | ((with_reducible show wpList _ _ _ (⟨none, .store 23 (.tmp 74) _, _, _, _, _⟩ :: _) _ _); refine wpList_storeRowU eH rfl (.tmp 74) _ rfl go (k * 3) (n4 * 3) (by rfl) ⟨[33], false, 0⟩ (#[.string ⟨#[33]⟩, .bool false, .int .i64 0]) rfl (by rfl) HTH.out HLE9.out ?_; intro w9z ht9 hg9; have HT9 := Lib.hid ht9; have HG9 := Lib.hid (gb2 HG.out hg9); clear ht9 hg9))
      refine ⟨⟨k + 1, HLTN.out, by go_num, HG9.out, Lib.hid (fun g' e => by cases e; exact HT9.out)⟩, ?_⟩
      have := HLTN.out
      simp [RowKit.intOf]
      omega
    obtain rfl : k = n4 := by omega
    have h1 : ¬ (k : Int) < (k : Int) := by omega
    clear hth hlt
    obtain ⟨w11, hw11⟩ : ∃ z, z = wr := ⟨_, rfl⟩
    subst hw11
    have D11 := Lib.hid (D10.out.grown HG.out D10.out.size (fun g hg => Nat.le_trans S3.out (O4.out.lt g hg)))
    have O5 := Lib.hid (kept_far O5.out HG.out L4.out)
    have S5 : Hid (w4.heap.size ≤ w5.heap.size) := Lib.hid SZ5.out
    have L45 : Hid (∀ g, (Value.slice A4 k c4).ownBlock = some g → g < w5.heap.size) := Lib.hid (fun g h => Nat.lt_of_lt_of_le (L4.out g h) S5.out)
    have O6 := Lib.hid (kept_far O6.out HG.out L45.out)
    have O7 := Lib.hid (kept_far O7.out HG.out L45.out)
    have O8 := Lib.hid (kept_far O8.out HG.out L45.out)
    go_wp2_with fail
    go_loopw [15] (fun i wr => ∃ (j : Nat) (zs : List (List UInt8)), j ≤ n5 ∧ i = .int .i64 (j : Int) ∧ zs.length = n5 ∧ Hid (OwnG eN wr w4.heap.size (.slice A5 n5 c5) zs) ∧ Hid (w11.grownBy wr (Value.slice A5 n5 c5).ownBlock)) (fun i _ => n5 - (RowKit.intOf i).toNat)
    case atStart => exact ⟨0, ns, Nat.zero_le _, rfl, E5.out.symm, O5, Lib.hid (World.grownBy.refl _ _)⟩
    case round =>
      obtain ⟨j, zs, hj, rfl, hz, HO, HG2⟩ := hrel
      by_cases hlt : j < n5
      · have h1 : (j : Int) < (n5 : Int) := by omega
        have h0 : (0 : Int) ≤ (j : Int) := by omega
        obtain ⟨go, hA⟩ : ∃ go, A5 = some ⟨go, 0, none⟩ := by
          obtain ⟨_, _, _, e, _, _, _, _, hg⟩ := HO.out.sl
          cases e
          obtain ⟨g, e, _, _⟩ := hg (Nat.lt_of_le_of_lt (Nat.zero_le _) hlt)
          exact ⟨g, e⟩
        subst hA
        obtain ⟨e, he⟩ : ∃ e, zs[j]? = some e := ⟨_, List.getElem?_eq_getElem (by omega)⟩
        have HEE := Lib.hid he
        have HLTN := Lib.hid hlt
        have HZL := Lib.hid hz
        have hk9 : j < 9223372036854775807 := by have := N5.out; omega
        clear hlt he hz
        go_wp2_with (first | ((with_reducible show wpList _ _ _ (⟨none, .store 9 (.tmp 83) _, _, _, _, _⟩ :: _) _ _); refine wpList_storeG eN rfl 9 (.tmp 83) _ rfl go j 0 j (by show j = j * 1 + 0; omega) (by rfl) (.string ⟨#[33]⟩) (by rfl) zs n5 c5 _ HO.out e [33] HEE.out (by decide) rfl sizeS rfl rfl ?_; intro w9z ho9 hg9; have HO9 := Lib.hid ho9; have HG9 := Lib.hid (gb2 HG2.out hg9); clear ho9 hg9))
        refine ⟨⟨j + 1, zs.set j [33], HLTN.out, by go_num, by rw [List.length_set]; exact HZL.out, HO9, HG9⟩, ?_⟩
        have := HLTN.out
        simp [RowKit.intOf]
        omega
      obtain rfl : j = n5 := by omega
      have h1 : ¬ (j : Int) < (j : Int) := by omega
      clear hlt
      obtain ⟨w12, hw12⟩ : ∃ z, z = wr := ⟨_, rfl⟩
      subst hw12
      have D12 := Lib.hid (D11.out.grown HG2.out D11.out.size (fun g hg => Nat.le_trans SW4.out (O5.out.lt g hg)))
      have O6 := Lib.hid (kept_far O6.out HG2.out L5.out)
      have O7 := Lib.hid (kept_far O7.out HG2.out L5.out)
      have O8 := Lib.hid (kept_far O8.out HG2.out L5.out)
      go_wp2_with (first
        | ((with_reducible refine (RSE.out w12 D12.out).mono ?_); rintro e w13 ⟨v13, tn13, er13, rfl, ho13, hb⟩; have O6 := Lib.hid (O6.out.below hb); have O7 := Lib.hid (O7.out.below hb); have O8 := Lib.hid (O8.out.below hb); obtain ⟨A13, n13, c13, rfl, e13, q13, m13, ow13⟩ := own_any ho13; have O13 := Lib.hid ow13; have E13 := Lib.hid e13; have Q13 := Lib.hid q13; have M13 := Lib.hid m13; clear e13 q13 m13 ow13 ho13; have D13 := Lib.hid (bel2 D12.out hb); clear hb)
        | ((with_reducible refine (RSY.out w13 D13.out).mono ?_); rintro e w14 ⟨v14, rfl, ho14, hb⟩; have O6 := Lib.hid (O6.out.below hb); have O7 := Lib.hid (O7.out.below hb); have O8 := Lib.hid (O8.out.below hb); have O13 := Lib.hid (O13.out.below hb); obtain ⟨A14, n14, c14, rfl, e14, q14, m14, ow14⟩ := own_any ho14; have O14 := Lib.hid ow14; have E14 := Lib.hid e14; have Q14 := Lib.hid q14; have M14 := Lib.hid m14; clear e14 q14 m14 ow14 ho14; have D14 := Lib.hid (bel2 D13.out hb); clear hb)
        | ((with_reducible refine (same_self O6.out O14.out (by have := NLL.out; omega)).mono ?_); rintro e w15 ⟨rfl, hb⟩; have O6 := Lib.hid (O6.out.below hb); have O7 := Lib.hid (O7.out.below hb); have O8 := Lib.hid (O8.out.below hb); have O13 := Lib.hid (O13.out.below hb); have O14 := Lib.hid (O14.out.below hb); have D15 := Lib.hid (bel2 D14.out hb); clear hb)
        | ((with_reducible refine (same_self O7.out O13.out (by have := NSL.out; omega)).mono ?_); rintro e w16 ⟨rfl, hb⟩; have O6 := Lib.hid (O6.out.below hb); have O7 := Lib.hid (O7.out.below hb); have O8 := Lib.hid (O8.out.below hb); have O13 := Lib.hid (O13.out.below hb); have O14 := Lib.hid (O14.out.below hb); have D16 := Lib.hid (bel2 D15.out hb); clear hb)
        | ((with_reducible refine (RDN.out w16 D16.out).mono ?_); rintro e w17 ⟨v17, rfl, ho17, hb⟩; have O6 := Lib.hid (O6.out.below hb); have O7 := Lib.hid (O7.out.below hb); have O8 := Lib.hid (O8.out.below hb); have O13 := Lib.hid (O13.out.below hb); have O14 := Lib.hid (O14.out.below hb); obtain ⟨A17, n17, c17, rfl, e17, q17, m17, ow17⟩ := own_any ho17; have O17 := Lib.hid ow17; have E17 := Lib.hid e17; have Q17 := Lib.hid q17; have M17 := Lib.hid m17; clear e17 q17 m17 ow17 ho17; have D17 := Lib.hid (bel2 D16.out hb); clear hb)
        | ((with_reducible refine (texts_self O8.out O17.out (by have := NDL.out; omega)).mono ?_); rintro e w18 ⟨rfl, hb⟩; have O6 := Lib.hid (O6.out.below hb); have O7 := Lib.hid (O7.out.below hb); have O8 := Lib.hid (O8.out.below hb); have O13 := Lib.hid (O13.out.below hb); have O14 := Lib.hid (O14.out.below hb); have O17 := Lib.hid (O17.out.below hb); have D18 := Lib.hid (bel2 D17.out hb); clear hb))
      go_ret
      exact ⟨rfl, D18.out⟩
end Go.Proofs.Yteljijjebocbiaa
