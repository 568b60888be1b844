/-
  inet.Change and inet.Changed, and the document's, for a seat with the texts of several stages: out of IRing, IPad, IRef2, IRef3.
-/
import Derived.IntWalk
import Derived.BigQuiet
import Derived.Test.YtkmcopenflakkaaQB
namespace Go.Proofs.Ytkmcopenflakkaa
set_option maxRecDepth 100000
section
open Go.RowKit Go.Lib
set_option maxHeartbeats 400000 in
/-- inet.Change -/
theorem change_any (c m n : Nat) (hc : c < 65536) (hm : m < 65536) (hn : n < 65536) (w : World) :
    Calls Try.prog 63 #[.int .u16 (c : Int), .int .u16 (m : Int), .int .u16 (n : Int)] w fun e w' => e = .returned (.int .u16 ((chg c m n : Nat) : Int)) ∧ w = w' := by
  have h1 := not16 c hc
  have h2 := not16 m hm
  have hle := nrm_le (65535 - c + (65535 - m) + n)
  have h3 := not16 (nrm (65535 - c + (65535 - m) + n)) (by omega)
  have hr := ring_any (65535 - c + (65535 - m) + n) (by omega)
  obtain ⟨R, hR⟩ : ∃ R, nrm (65535 - c + (65535 - m) + n) = R := ⟨_, rfl⟩
  rw [chg_nrm (by omega)]
  rw [hR] at h3 hr hle ⊢
  obtain ⟨c', hc'⟩ : ∃ c', 65535 - c = c' := ⟨_, rfl⟩
  obtain ⟨m', hm'⟩ : ∃ m', 65535 - m = m' := ⟨_, rfl⟩
  have lc : c' < 65536 := by omega
  have lm : m' < 65536 := by omega
  rw [hc'] at h1 hr
  rw [hm'] at h2 hr
  rw [show ((c' + m' + n : Nat) : Int) = (c' : Int) + m' + n by omega] at hr
  have HR := Lib.hid hr
  clear hR hc' hm' hr
  obtain ⟨r, hr⟩ : ∃ r, 65535 - R = r := ⟨_, rfl⟩
  rw [hr] at h3 ⊢
  clear hr
  have w1 : IntKind.u64.wrap (c' : Int) = _ := wu64 (by omega) (by omega)
  have w2 : IntKind.u64.wrap (m' : Int) = _ := wu64 (by omega) (by omega)
  have w3 : IntKind.u64.wrap ((c' : Int) + m') = _ := wu64 (by omega) (by omega)
  have w4 : IntKind.u64.wrap ((c' : Int) + m' + n) = _ := wu64 (by omega) (by omega)
  go_enter Try.func63, Try.ntmps63
  go_wp2_with fail
  refine (HR.out _).mono ?_
  rintro e w' ⟨rfl, rfl⟩
  go_wp2_with fail
  go_ret
  exact ⟨rfl, rfl⟩
set_option maxHeartbeats 400000 in
/-- inet.byteAt -/
theorem byteAt_any (A : Option Addr) (len cap : Nat) (xs : List UInt8) (hlen : len ≤ 1000000) (i : Nat) (hi : i ≤ 1000000) (w : World) {B : Nat} (hI : Rd w B A len xs) :
    Calls Try.prog 75 #[.slice A len cap, .int .i64 (i : Int)] w fun e w' => e = .returned (.int .u8 ((batN xs i : Nat) : Int)) ∧ w = w' := by
  by_cases hlt : i < len
  · have hlt' : (i : Int) < (len : Int) := by omega
    obtain ⟨b, off, rfl, hb⟩ := hI.addr (by omega)
    have hc := hI.cell (k := i) hlt
    have e : batN xs i = (xs[i]'(by rw [hI.len]; exact hlt)).toNat := by
      unfold batN
      rw [List.getD_eq_getElem?_getD, List.getElem?_eq_getElem (by rw [hI.len]; exact hlt)]
      rfl
    rw [← e] at hc
    clear hI e
    obtain ⟨x, hx⟩ : ∃ x, batN xs i = x := ⟨_, rfl⟩
    rw [hx] at hc ⊢
    clear hx
    go_enter Try.func75, Try.ntmps75
    go_wp2
    go_ret
    exact ⟨rfl, rfl⟩
  · have hlt' : ¬ (i : Int) < (len : Int) := by omega
    have e : batN xs i = 0 := by
      unfold batN
      rw [List.getD_eq_getElem?_getD, List.getElem?_eq_none (by rw [hI.len]; omega)]
      rfl
    rw [e]
    clear hI e
    go_enter Try.func75, Try.ntmps75
    go_wp2
    go_ret
    exact ⟨rfl, rfl⟩
set_option maxHeartbeats 400000 in
/-- inet.word -/
theorem word_any (A : Option Addr) (len cap : Nat) (xs : List UInt8) (hlen : len ≤ 1000000) (i : Nat) (hi : i < 1000000) (w : World) {B : Nat} (hI : Rd w B A len xs) :
    Calls Try.prog 64 #[.slice A len cap, .int .i64 (i : Int)] w fun e w' => e = .returned (.int .u16 ((wat xs i : Nat) : Int)) ∧ w = w' := by
  have H0 := Lib.hid (byteAt_any A len cap xs hlen i (by omega) w hI)
  have H1 := Lib.hid (byteAt_any A len cap xs hlen (i + 1) (by omega) w hI)
  have l0 := batN_lt xs i
  have l1 := batN_lt xs (i + 1)
  unfold wat
  obtain ⟨x, hx⟩ : ∃ x, batN xs i = x := ⟨_, rfl⟩
  obtain ⟨y, hy⟩ : ∃ y, batN xs (i + 1) = y := ⟨_, rfl⟩
  rw [hx] at H0 l0
  rw [hy] at H1 l1
  rw [hx, hy]
  clear hx hy hI
  have ho := or16 x y l0 l1
  rw [show ((256 * x : Nat) : Int) = (x : Int) * 256 by omega] at ho
  obtain ⟨R, hR⟩ : ∃ R, 256 * x + y = R := ⟨_, rfl⟩
  rw [hR] at ho ⊢
  clear hR
  go_enter Try.func64, Try.ntmps64
  go_wp2_with fail
  refine H0.out.mono ?_
  rintro e w' ⟨rfl, rfl⟩
  go_wp2_with fail
  refine H1.out.mono ?_
  rintro e w' ⟨rfl, rfl⟩
  go_wp2_with fail
  go_ret
  exact ⟨rfl, rfl⟩
end
section
open Go.RowKit Go.Lib
/-- A text, made as long as M by noughts. -/
def padTo (xs : List UInt8) (M : Nat) : List UInt8 := xs ++ List.replicate (M - xs.length) 0
theorem padTo_len {xs : List UInt8} {M : Nat} (h : xs.length ≤ M) : (padTo xs M).length = M := by
  unfold padTo; rw [List.length_append, List.length_replicate]; omega
theorem padTo_self (xs : List UInt8) : padTo xs xs.length = xs := by simp [padTo]
theorem padTo_more {xs : List UInt8} {M : Nat} (h : xs.length ≤ M) : padTo xs (M + 1) = padTo xs M ++ [0] := by
  unfold padTo
  rw [show M + 1 - xs.length = (M - xs.length) + 1 by omega, List.replicate_succ', List.append_assoc]
theorem padTo_bat (xs : List UInt8) (M i : Nat) : batN (padTo xs M) i = batN xs i := by
  unfold batN padTo
  rw [List.getD_eq_getElem?_getD, List.getD_eq_getElem?_getD, List.getElem?_append]
  split
  · rfl
  · rename_i h
    rw [List.getElem?_eq_none (l := xs) (by omega), List.getElem?_replicate]
    split <;> rfl
theorem padTo_wat (xs : List UInt8) (M i : Nat) : wat (padTo xs M) i = wat xs i := by unfold wat; rw [padTo_bat, padTo_bat]
theorem wordsOf_drop {xs : List UInt8} {k : Nat} (h : 2 * k < xs.length) : (wordsOf xs).drop k = wat xs (2 * k) :: (wordsOf xs).drop (k + 1) := by
  obtain ⟨hl, he⟩ := List.getElem?_eq_some_iff.1 (wordsOf_at xs k h)
  rw [List.drop_eq_getElem_cons hl, he]
theorem chgs_cons (c m n : Nat) (ms ns : List Nat) : chgs c (m :: ms) (n :: ns) = chgs (chg c m n) ms ns := rfl
theorem chgs_nil (c : Nat) (ns : List Nat) : chgs c [] ns = c := by cases ns <;> rfl
/-- c, changed from each word of fr to that of to. -/
def changedOf (c : Nat) (fr to : List UInt8) : Nat := chgs c (wordsOf (padTo fr (max fr.length to.length))) (wordsOf (padTo to (max fr.length to.length)))
theorem changedOf_same {fr to : List UInt8} (h : to.length = fr.length) (c : Nat) : changedOf c fr to = chgs c (wordsOf fr) (wordsOf to) := by
  unfold changedOf
  rw [h, Nat.max_self, padTo_self]
  conv => lhs; rw [← h, padTo_self]
theorem chgs_step {c k M : Nat} {fr to : List UInt8} (hf : fr.length ≤ M) (ht : to.length ≤ M) (hk : 2 * k < M) :
    chgs c ((wordsOf (padTo fr M)).drop k) ((wordsOf (padTo to M)).drop k) = chgs (chg c (wat fr (2 * k)) (wat to (2 * k))) ((wordsOf (padTo fr M)).drop (k + 1)) ((wordsOf (padTo to M)).drop (k + 1)) := by
  rw [wordsOf_drop (xs := padTo fr M) (k := k) (by rw [padTo_len hf]; exact hk), wordsOf_drop (xs := padTo to M) (k := k) (by rw [padTo_len ht]; exact hk), chgs_cons, padTo_wat, padTo_wat]
theorem chgs_end {c k M : Nat} {fr to : List UInt8} (hf : fr.length ≤ M) (hk : M ≤ 2 * k) :
    chgs c ((wordsOf (padTo fr M)).drop k) ((wordsOf (padTo to M)).drop k) = c := by
  rw [List.drop_of_length_le (by rw [wordsOf_length, padTo_len hf]; omega), chgs_nil]
set_option maxHeartbeats 2000000 in
/-- inet.Changed -/
theorem changed_any (c : Nat) (hc : c < 65536) (A : Option Addr) (len cap : Nat) (xs : List UInt8) (hlen : len ≤ 100000) (A' : Option Addr) (len' cap' : Nat) (ys : List UInt8) (hlen' : len' ≤ 100000) (w : World) {B B' : Nat} (hI : Rd w B A len xs) (hI' : Rd w B' A' len' ys) :
    Calls Try.prog 46 #[.int .u16 (c : Int), .slice A len cap, .slice A' len' cap'] w fun e w' => e = .returned (.int .u16 ((changedOf c xs ys : Nat) : Int)) ∧ w = w' := by
  have hL := hI.len
  have hL' := hI'.len
  unfold changedOf
  rw [hL, hL']
  obtain ⟨M, hM⟩ : ∃ M, max len len' = M := ⟨_, rfl⟩
  have hM1 : xs.length ≤ M := by omega
  have hM2 : ys.length ≤ M := by omega
  rw [hM]
  obtain ⟨R, hR⟩ : ∃ R, chgs c (wordsOf (padTo xs M)) (wordsOf (padTo ys M)) = R := ⟨_, rfl⟩
  rw [hR]
  have HR := Lib.hid hR
  clear hR hL hL'
  rcases Nat.lt_or_ge len len' with hd | hd
  · obtain rfl : M = len' := by omega
    clear hM
    go_enter Try.func46, Try.ntmps46
    go_wp2_with fail
    go_loop [0, 7] (fun u i => ∃ k m : Nat, m < 65536 ∧ u = .int .u16 (m : Int) ∧ i = .int .i64 ((2 * k : Nat) : Int) ∧ 2 * k ≤ M + 1 ∧ chgs m ((wordsOf (padTo xs M)).drop k) ((wordsOf (padTo ys M)).drop k) = R)
      (fun _ i => M + 1 - (intOf i).toNat)
    case atStart => exact ⟨0, c, hc, rfl, rfl, by omega, HR.out⟩
    case round =>
      obtain ⟨k, m, hm, rfl, rfl, hk, hr⟩ := hrel
      by_cases hlt : 2 * k < M
      · have hlt' : 2 * (k : Int) < (M : Int) := by omega
        rw [chgs_step hM1 hM2 hlt] at hr
        have hq := chg_le m (wat xs (2 * k)) (wat ys (2 * k))
        have lx := wat_lt xs (2 * k)
        have ly := wat_lt ys (2 * k)
        have hx := word_any A _ cap xs (by omega) (2 * k) (by omega) w hI
        have hy := word_any A' _ cap' ys (by omega) (2 * k) (by omega) w hI'
        obtain ⟨x, ex⟩ : ∃ x, wat xs (2 * k) = x := ⟨_, rfl⟩
        obtain ⟨y, ey⟩ : ∃ y, wat ys (2 * k) = y := ⟨_, rfl⟩
        rw [ex] at hr hq lx hx
        rw [ey] at hr hq ly hy
        rw [show ((2 * k : Nat) : Int) = 2 * (k : Int) by omega] at hx hy
        clear ex ey
        have HX := Lib.hid hx
        have HY := Lib.hid hy
        have HC := Lib.hid (change_any m x y hm lx ly)
        have HQ := Lib.hid hr
        clear hr hx hy
        go_wp2_with fail
        refine HX.out.mono ?_
        rintro e w' ⟨rfl, rfl⟩
        go_wp2_with fail
        refine HY.out.mono ?_
        rintro e w' ⟨rfl, rfl⟩
        go_wp2_with fail
        refine (HC.out _).mono ?_
        rintro e w' ⟨rfl, rfl⟩
        go_wp2_with fail
        go_round
        case rel => exact ⟨k + 1, chg m x y, by omega, rfl, by go_num, by omega, HQ.out⟩
        case measure => simp [intOf]; omega
      · rw [chgs_end hM1 (by omega)] at hr
        have HQ := Lib.hid hr
        clear hr
        have hlt' : ¬ 2 * (k : Int) < (M : Int) := by omega
        go_wp2_with fail
        go_ret
        rw [← HQ.out]
        exact ⟨rfl, rfl⟩
  · obtain rfl : M = len := by omega
    have hd' : ¬ M < len' := by omega
    clear hM
    go_enter Try.func46, Try.ntmps46
    go_wp2_with fail
    go_loop [0, 7] (fun u i => ∃ k m : Nat, m < 65536 ∧ u = .int .u16 (m : Int) ∧ i = .int .i64 ((2 * k : Nat) : Int) ∧ 2 * k ≤ M + 1 ∧ chgs m ((wordsOf (padTo xs M)).drop k) ((wordsOf (padTo ys M)).drop k) = R)
      (fun _ i => M + 1 - (intOf i).toNat)
    case atStart => exact ⟨0, c, hc, rfl, rfl, by omega, HR.out⟩
    case round =>
      obtain ⟨k, m, hm, rfl, rfl, hk, hr⟩ := hrel
      by_cases hlt : 2 * k < M
      · have hlt' : 2 * (k : Int) < (M : Int) := by omega
        rw [chgs_step hM1 hM2 hlt] at hr
        have hq := chg_le m (wat xs (2 * k)) (wat ys (2 * k))
        have lx := wat_lt xs (2 * k)
        have ly := wat_lt ys (2 * k)
        have hx := word_any A _ cap xs (by omega) (2 * k) (by omega) w hI
        have hy := word_any A' _ cap' ys (by omega) (2 * k) (by omega) w hI'
        obtain ⟨x, ex⟩ : ∃ x, wat xs (2 * k) = x := ⟨_, rfl⟩
        obtain ⟨y, ey⟩ : ∃ y, wat ys (2 * k) = y := ⟨_, rfl⟩
        rw [ex] at hr hq lx hx
        rw [ey] at hr hq ly hy
        rw [show ((2 * k : Nat) : Int) = 2 * (k : Int) by omega] at hx hy
        clear ex ey
        have HX := Lib.hid hx
        have HY := Lib.hid hy
        have HC := Lib.hid (change_any m x y hm lx ly)
        have HQ := Lib.hid hr
        clear hr hx hy
        go_wp2_with fail
        refine HX.out.mono ?_
        rintro e w' ⟨rfl, rfl⟩
        go_wp2_with fail
        refine HY.out.mono ?_
        rintro e w' ⟨rfl, rfl⟩
        go_wp2_with fail
        refine (HC.out _).mono ?_
        rintro e w' ⟨rfl, rfl⟩
        go_wp2_with fail
        go_round
        case rel => exact ⟨k + 1, chg m x y, by omega, rfl, by go_num, by omega, HQ.out⟩
        case measure => simp [intOf]; omega
      · rw [chgs_end hM1 (by omega)] at hr
        have HQ := Lib.hid hr
        clear hr
        have hlt' : ¬ 2 * (k : Int) < (M : Int) := by omega
        go_wp2_with fail
        go_ret
        rw [← HQ.out]
        exact ⟨rfl, rfl⟩
end
section
open Go.RowKit Go.Lib
set_option maxHeartbeats 400000 in
/-- The reference's Change. -/
theorem rchange_any (c m n : Nat) (hc : c < 65536) (hm : m < 65536) (hn : n < 65536) (w : World) :
    Calls Try.prog 49 #[.int .i64 (c : Int), .int .i64 (m : Int), .int .i64 (n : Int)] w fun e w' => e = .returned (.int .i64 ((chg c m n : Nat) : Int)) ∧ w = w' := by
  have h1 := rring_any (65535 - c) (65535 - m) (by omega) (by omega)
  have hl1 := ring_le' (a := 65535 - c) (b := 65535 - m) (by omega) (by omega)
  have h2 := rring_any (ring (65535 - c) (65535 - m)) n hl1 (by omega)
  have hl2 := ring_le' (a := ring (65535 - c) (65535 - m)) (b := n) hl1 (by omega)
  unfold chg
  obtain ⟨R, hR⟩ : ∃ R, ring (65535 - c) (65535 - m) = R := ⟨_, rfl⟩
  rw [hR] at h1 hl1 h2 hl2 ⊢
  obtain ⟨S, hS⟩ : ∃ S, ring R n = S := ⟨_, rfl⟩
  rw [hS] at h2 hl2 ⊢
  rw [show ((65535 - S : Nat) : Int) = 65535 - (S : Int) by omega]
  rw [show ((65535 - c : Nat) : Int) = 65535 - (c : Int) by omega, show ((65535 - m : Nat) : Int) = 65535 - (m : Int) by omega] at h1
  have H1 := Lib.hid h1
  have H2 := Lib.hid h2
  clear h1 h2 hR hS
  go_enter Try.func49, Try.ntmps49
  go_wp2_with fail
  refine (H1.out _).mono ?_
  rintro e w' ⟨rfl, rfl⟩
  go_wp2_with fail
  refine (H2.out _).mono ?_
  rintro e w' ⟨rfl, rfl⟩
  go_wp2_with fail
  go_ret
  exact ⟨rfl, rfl⟩
end
section
open Go.RowKit Go.Lib
theorem Own8.form {w : World} {base : Nat} {v : Value} {xs : List UInt8} (h : Own8 w base v xs) {n : Nat} (hn : xs.length = n) : ∃ A c, v = .slice A n c ∧ n ≤ c ∧ c ≤ maxLen ∧ Rd w w.heap.size A n xs := by
  subst hn
  obtain ⟨A, c, e, h1, h2, h3, _⟩ := h.rd
  exact ⟨A, c, e, h1, h2, h3⟩
theorem RdI.drewN {w : World} {B n : Nat} {A : Option Addr} {xs : List Nat} (h : RdI w B A n xs) (k : Nat) : RdI (w.drewN k) B A n xs := h
/-- Two slice values that lie in blocks of their own. -/
def Apart (u v : Value) : Prop := u.ownBlock = none ∨ u.ownBlock ≠ v.ownBlock
theorem Apart.sym {u v : Value} (h : Apart u v) : Apart v u := by
  rcases h with h | h
  · cases e : v.ownBlock with
    | none => exact .inl e
    | some g => exact .inr (by rw [h, e]; simp)
  · exact .inr (fun e => h e.symm)
theorem Own8.old {w : World} {base : Nat} {v : Value} {xs : List UInt8} (h : Own8 w base v xs) {g : Nat} (hg : w.heap.size ≤ g) : v.ownBlock ≠ some g := fun e => by
  have := (World.ownsRow.lt h g e).2; omega
/-- What is appended to stays apart. -/
theorem Apart.more {w : World} {base : Nat} {u v v' : Value} {xs : List UInt8} (h : Apart u v) (hu : Own8 w base u xs) {g : Nat} (hg : w.heap.size ≤ g) (hv : v'.ownBlock = v.ownBlock ∨ v'.ownBlock = some g) : Apart u v' := by
  rcases hv with e | e
  · unfold Apart; rw [e]; exact h
  · right
    rw [e]
    exact hu.old hg
set_option maxRecDepth 100000 in
set_option maxHeartbeats 4000000 in
/-- The reference's Changed. -/
theorem rchanged_any (c : Nat) (hc : c < 65536) (A : Option Addr) (len cap : Nat) (xs : List UInt8) (hlen : len ≤ 10000) (A' : Option Addr) (len' cap' : Nat) (ys : List UInt8) (hlen' : len' ≤ 10000) (w : World) {B : Nat} (hI : Rd w B A len xs) (hI' : Rd w B A' len' ys) (hBw : B ≤ w.heap.size) :
    Calls Try.prog 25 #[.int .i64 (c : Int), .slice A len cap, .slice A' len' cap'] w fun e w' => e = .returned (.int .i64 ((changedOf c xs ys : Nat) : Int)) ∧ Below w.heap.size w w' := by
  have hL := hI.len
  have hL' := hI'.len
  unfold changedOf
  rw [hL, hL']
  obtain ⟨M, hM⟩ : ∃ M, max len len' = M := ⟨_, rfl⟩
  have hM1 : len ≤ M := by omega
  have hM2 : len' ≤ M := by omega
  have hMl : M ≤ 10000 := by omega
  have hMm : M = len ∨ M = len' := by omega
  rw [hM]
  obtain ⟨R, hR⟩ : ∃ R, chgs c (wordsOf (padTo xs M)) (wordsOf (padTo ys M)) = R := ⟨_, rfl⟩
  rw [hR]
  have HR := Lib.hid hR
  have HL := Lib.hid hL
  have HL' := Lib.hid hL'
  clear hR hM hL hL'
  have how := empty8 (base := w.heap.size) w (Nat.le_refl _)
  go_enter Try.func25, Try.ntmps25
  go_wp2_with (first
    | (at_builtin; refine wpList_append8 (o := ⟨some 14, _, _, _, _, _⟩) rfl _ _ rfl w.heap.size _ [] (by rfl) how _ _ _ _ xs (by rfl) (hI.alloc hBw _) (by simp; omega) (by simp) ?_; intro v1 w1 ho1 hg1 _; rw [List.nil_append] at ho1; have hb1 := ((Below.refl w.heap.size w).alloc (Nat.le_refl _) (.cells #[] 5)).grown hg1 (by simp) how.lt; have z1 := hb1.size; obtain ⟨A1, c1, rfl, _, _, _⟩ := ho1.form HL.out; have how2 := empty8 (base := w1.heap.size) w1 (Nat.le_refl _))
    | (at_builtin; refine wpList_append8 (o := ⟨some 17, _, _, _, _, _⟩) rfl _ _ rfl w1.heap.size _ [] (by rfl) how2 _ _ _ _ ys (by rfl) ((hI'.below (hb1.mono hBw)).alloc (Nat.le_trans hBw z1) _) (by simp; omega) (by simp) ?_; intro v2 w2 ho2 hg2 _; rw [List.nil_append] at ho2; have hb2 := ((Below.refl w1.heap.size w1).alloc (Nat.le_refl _) (.cells #[] 5)).grown hg2 (by simp) how2.lt; obtain ⟨A2, c2, rfl, _, _, _⟩ := ho2.form HL'.out))
  have hap : Apart (.slice A1 len c1) (.slice A2 len' c2) := by
    cases e : (Value.slice A1 len c1).ownBlock with
    | none => exact .inl e
    | some g => exact .inr (fun e2 => by rw [e] at e2; have h1 := ho2.lt g e2.symm; exact ho1.old h1 e)
  have ho1' := ho1.below hb2
  have B2 := hb1.trans (hb2.mono z1)
  have z2 := B2.size
  have ho2' := ho2.base_le z1
  clear ho1 ho2 hg1 hg2 hb1 hb2 how how2
  have ho1p : Own8 w2 w.heap.size (.slice A1 len c1) (padTo xs len) := by rw [← HL.out, padTo_self, HL.out]; exact ho1'
  clear ho1'
  go_loopw [7] (fun v wr => ∃ (m : Nat) (A1 : Option Addr) (c1 : Nat), len ≤ m ∧ m ≤ M ∧ v = .slice A1 m c1 ∧ Own8 wr w.heap.size (.slice A1 m c1) (padTo xs m) ∧ Own8 wr w.heap.size (.slice A2 len' c2) ys ∧ Apart (.slice A1 m c1) (.slice A2 len' c2) ∧ Below w.heap.size w wr)
    (fun v _ => M - lenOf8 v)
  case atStart => exact ⟨len, A1, c1, Nat.le_refl _, hM1, rfl, ho1p, ho2', hap, B2⟩
  case round =>
    clear hap ho1p ho2' B2
    obtain ⟨m, A1, c1, hm1, hm2, rfl, hoa, hob, hap, B3⟩ := hrel
    have z3 := B3.size
    by_cases hlt : m < len'
    · have hlt' : (m : Int) < (len' : Int) := by omega
      have hpl : (padTo xs m).length = m := padTo_len (by rw [HL.out]; exact hm1)
      have hpm := padTo_more (xs := xs) (M := m) (by rw [HL.out]; exact hm1)
      have HP := Lib.hid hpm
      have HPL := Lib.hid hpl
      clear hpm hpl
      go_wp2_with (at_builtin; refine wpList_append8 rfl _ _ rfl w.heap.size _ (padTo xs m) (by rfl) (hoa.alloc _) _ _ _ _ [0] (by rfl) (Rd.one wr 0) (by have := HPL.out; omega) (by simp; omega) ?_; intro v' w3 ho' hg' hv')
      have hb3 := (B3.alloc z3 (.cells #[.int .u8 ((0 : UInt8).toNat : Int)] 5)).grown hg' (by simp; omega) hoa.lt
      rw [← HP.out] at ho'
      obtain ⟨A3, c3, rfl, _, _, _⟩ := ho'.form (n := m + 1) (padTo_len (by rw [HL.out]; omega))
      have hob' := (hob.alloc (.cells #[.int .u8 ((0 : UInt8).toNat : Int)] 5)).kept hg' hap.sym
      have hap' := (hap.sym.more (hob.alloc (.cells #[.int .u8 ((0 : UInt8).toNat : Int)] 5)) (Nat.le_refl _) hv').sym
      go_wp2_with fail
      go_roundw
      case rel => exact ⟨m + 1, A3, c3, by omega, by omega, rfl, ho', hob', hap', hb3⟩
      case measure => simp [lenOf8]; omega
    · have hlt' : ¬ (m : Int) < (len' : Int) := by omega
      obtain rfl : m = M := by omega
      clear hI hI' hlt
      have hpa : (padTo xs m).length = m := padTo_len (by rw [HL.out]; exact hm1)
      have HPA := Lib.hid hpa
      clear hpa
      go_wp2_with fail
      have hob2 : Own8 wr w.heap.size (.slice A2 len' c2) (padTo ys len') := by rw [← HL'.out, padTo_self, HL'.out]; exact hob
      go_loopw [8] (fun v wr => ∃ (m' : Nat) (A2 : Option Addr) (c2 : Nat), len' ≤ m' ∧ m' ≤ m ∧ v = .slice A2 m' c2 ∧ Own8 wr w.heap.size (.slice A2 m' c2) (padTo ys m') ∧ Own8 wr w.heap.size (.slice A1 m c1) (padTo xs m) ∧ Apart (.slice A1 m c1) (.slice A2 m' c2) ∧ Below w.heap.size w wr)
        (fun v _ => m - lenOf8 v)
      case atStart => exact ⟨len', A2, c2, Nat.le_refl _, hM2, rfl, hob2, hoa, hap, B3⟩
      case round =>
        clear hap hoa hob hob2 B3 z3
        obtain ⟨m', A2, c2, hn1, hn2, rfl, hob, hoa, hap, B3⟩ := hrel
        have z3 := B3.size
        by_cases hlt : m' < m
        · have hlt' : (m' : Int) < (m : Int) := by omega
          have hpl : (padTo ys m').length = m' := padTo_len (by rw [HL'.out]; exact hn1)
          have hpm := padTo_more (xs := ys) (M := m') (by rw [HL'.out]; exact hn1)
          have HP := Lib.hid hpm
          have HPL := Lib.hid hpl
          clear hpm hpl
          go_wp2_with (at_builtin; refine wpList_append8 rfl _ _ rfl w.heap.size _ (padTo ys m') (by rfl) (hob.alloc _) _ _ _ _ [0] (by rfl) (Rd.one wr 0) (by have := HPL.out; omega) (by simp; omega) ?_; intro v' w3 ho' hg' hv')
          have hb3 := (B3.alloc z3 (.cells #[.int .u8 ((0 : UInt8).toNat : Int)] 5)).grown hg' (by simp; omega) hob.lt
          rw [← HP.out] at ho'
          obtain ⟨A3, c3, rfl, _, _, _⟩ := ho'.form (n := m' + 1) (padTo_len (by rw [HL'.out]; omega))
          have hoa' := (hoa.alloc (.cells #[.int .u8 ((0 : UInt8).toNat : Int)] 5)).kept hg' hap
          have hap' := hap.more (hoa.alloc (.cells #[.int .u8 ((0 : UInt8).toNat : Int)] 5)) (Nat.le_refl _) hv'
          go_wp2_with fail
          go_roundw
          case rel => exact ⟨m' + 1, A3, c3, by omega, by omega, rfl, ho', hoa', hap', hb3⟩
          case measure => simp [lenOf8]; omega
        · have hlt' : ¬ (m' : Int) < (m : Int) := by omega
          obtain rfl : m' = m := by omega
          have hpb : (padTo ys m').length = m' := padTo_len (by rw [HL'.out]; exact hn1)
          have HPB := Lib.hid hpb
          clear hpb
          obtain ⟨Aa, ca, ea, _, _, ha⟩ := hoa.form HPA.out
          cases ea
          obtain ⟨Ab, cb, eb, _, _, hb⟩ := hob.form HPB.out
          cases eb
          obtain ⟨q, hq⟩ : ∃ q, (m' + 1) / 2 = q := ⟨_, rfl⟩
          have hql : q ≤ 10000 := by omega
          have HWA := Lib.hid (fun W (h : Below wr.heap.size wr W) => rwords_at A1 m' c1 (padTo xs m') (by omega) W (ha.below h) h.size q hq)
          have HWB := Lib.hid (fun W (h : Below wr.heap.size wr W) => rwords_at A2 m' c2 (padTo ys m') (by omega) W (hb.below h) h.size q hq)
          have hxle := wordsOf_le (padTo xs m')
          have hyle := wordsOf_le (padTo ys m')
          obtain ⟨Xs, hXs⟩ : ∃ Xs, wordsOf (padTo xs m') = Xs := ⟨_, rfl⟩
          obtain ⟨Ys, hYs⟩ : ∃ Ys, wordsOf (padTo ys m') = Ys := ⟨_, rfl⟩
          rw [hXs] at hxle HWA HR
          rw [hYs] at hyle HWB HR
          clear hXs hYs hq hlt hn2 hm1 hm2 hMm hoa hob hap ha hb
          go_wp2_with fail
          refine (HWA.out _ (Below.refl _ _)).mono ?_
          rintro e w4 ⟨A4, c4, rfl, hr4, hb4⟩
          have B4 := B3.trans (hb4.mono z3)
          have z4 := hb4.size
          go_wp2_with fail
          refine (HWB.out _ hb4).mono ?_
          rintro e w5 ⟨A5, c5, rfl, hr5, hb5⟩
          have B5 := B4.trans (hb5.mono B4.size)
          have z5 := hb5.size
          have hr4' := hr4.below hb5
          have HX := Lib.hid hr4.len
          have HY := Lib.hid hr5.len
          clear hr4 B4 hb4 hb5 HWA HWB
          go_wp2_with fail
          go_loopw [0, 11] (fun u i wr => ∃ (k S : Nat), k ≤ q ∧ S < 65536 ∧ u = .int .i64 (S : Int) ∧ i = .int .i64 (k : Int) ∧ chgs S (Xs.drop k) (Ys.drop k) = R ∧ RdI wr w4.heap.size A4 q Xs ∧ RdI wr w5.heap.size A5 q Ys ∧ Below w.heap.size w wr)
            (fun _ i _ => q - (intOf i).toNat)
          case atStart => exact ⟨0, c, by omega, hc, rfl, rfl, by rw [List.drop_zero, List.drop_zero]; exact HR.out, hr4', hr5, B5⟩
          case round =>
            clear hr4' hr5 B5
            obtain ⟨k, S, hk, hS, rfl, rfl, hs, hr4, hr5, B6⟩ := hrel
            by_cases hlt : k < q
            · have hlt' : (k : Int) < (q : Int) := by omega
              obtain ⟨b1, off1, rfl, hb1⟩ := hr4.addr (by omega)
              obtain ⟨b2, off2, rfl, hb2⟩ := hr5.addr (by omega)
              obtain ⟨x, hx⟩ : ∃ x, Xs[k]? = some x := ⟨_, List.getElem?_eq_getElem (by rw [HX.out]; exact hlt)⟩
              obtain ⟨y, hy⟩ : ∃ y, Ys[k]? = some y := ⟨_, List.getElem?_eq_getElem (by rw [HY.out]; exact hlt)⟩
              have hcx := hr4.cell hx
              have hcy := hr5.cell hy
              have hxl := hxle x (List.mem_of_getElem? hx)
              have hyl := hyle y (List.mem_of_getElem? hy)
              rw [dropN_at hx, dropN_at hy, chgs_cons] at hs
              have hcl := chg_le S x y
              have HQ := Lib.hid hs
              have HC := Lib.hid (rchange_any S x y hS (by omega) (by omega))
              clear hs hx hy
              go_wp2_with fail
              go_quiet ((go_at_call 49; exact quiet_same (HC.out _)))
              go_wp2_with fail
              go_roundw
              case rel => exact ⟨k + 1, chg S x y, by omega, by omega, rfl, by go_num, HQ.out, hr4.drewN _, hr5.drewN _, below_drewN B6 _⟩
              case measure => simp [intOf]; omega
            · obtain rfl : k = q := by omega
              rw [List.drop_of_length_le (by rw [HX.out]; omega), chgs_nil] at hs
              have HQ := Lib.hid hs
              clear hs
              go_wp2_with fail
              go_ret
              rw [← HQ.out]
              exact ⟨rfl, B6⟩
end
end Go.Proofs.Ytkmcopenflakkaa
