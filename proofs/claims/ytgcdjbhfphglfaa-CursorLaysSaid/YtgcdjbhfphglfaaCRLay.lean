/-
  The contract of the document's Lay.
-/
import Derived.Test.YtgcdjbhfphglfaaCRScan
import Derived.BigQuiet
import Derived.Deep.QuietTactic
namespace Go.Proofs.Ytgcdjbhfphglfaa
open Go.RowKit Go.Lib

/-- What the document's Lay answers. -/
def RLayGave (w : World) (r : Option (List UInt8)) (e : Ending) (w' : World) : Prop :=
  Below w.heap.size w w' ∧ match r with
    | some ys => ∃ v, e = .returned (.tuple #[v, .bool true]) ∧ Own8 w' w.heap.size v ys
    | none => e = .returned (.tuple #[.slice none 0 0, .bool false])

/-- An item's and a piece's cells. -/
def SL (D : Nat) (k n : Int) (b : Bool) (N : Nat) (A : Option Addr) (l c : Nat) (w' : World) : Prop :=
  w'.cell? ⟨D, 0, none⟩ = some (.int .i64 k) ∧ w'.cell? ⟨D, 1, none⟩ = some (.int .i64 n) ∧ w'.cell? ⟨D, 2, none⟩ = some (.bool b) ∧ w'.cell? ⟨D + 1, 0, none⟩ = some (.int .u64 (N : Int)) ∧ w'.cell? ⟨D + 1, 1, none⟩ = some (.slice A l c)
theorem SL.of {D : Nat} {k n : Int} {b : Bool} {N : Nat} {A : Option Addr} {l c : Nat} {w w' : World} (h : SL D k n b N A l c w) (h0 : w'.heap[D]? = w.heap[D]?) (h1 : w'.heap[D + 1]? = w.heap[D + 1]?) : SL D k n b N A l c w' :=
  ⟨(World.cell?_of_block h0).trans h.1, (World.cell?_of_block h0).trans h.2.1, (World.cell?_of_block h0).trans h.2.2.1, (World.cell?_of_block h1).trans h.2.2.2.1, (World.cell?_of_block h1).trans h.2.2.2.2⟩
theorem SL.below {D : Nat} {k n : Int} {b : Bool} {N : Nat} {A : Option Addr} {l c B : Nat} {w w' : World} (h : SL D k n b N A l c w) (hb : Below B w w') (hD : D + 1 < B) : SL D k n b N A l c w' := h.of (hb.block D (by omega)) (hb.block (D + 1) hD)
theorem SL.grown {D : Nat} {k n : Int} {b : Bool} {N : Nat} {A : Option Addr} {l c : Nat} {w w' : World} {row : Option Nat} (h : SL D k n b N A l c w) (hg : w.grownBy w' row) (hD : D + 1 < w.heap.size) (h0 : some D ≠ row) (h1 : some (D + 1) ≠ row) : SL D k n b N A l c w' := h.of (hg.block D (by omega) h0) (hg.block (D + 1) hD h1)

set_option maxRecDepth 100000 in
set_option maxHeartbeats 4000000 in
theorem rlay_any (A : Option Addr) (len cap : Nat) (A' : Option Addr) (len' cap' : Nat) (xs : List It) (ps : List Pc) (hlen : len ≤ 1000) (hlen' : len' ≤ 1000) (hps : ∀ p ∈ ps, p.n < 18446744073709551616 ∧ p.bs.length ≤ 1000) (w : World)
    (hI : PlanAt w w.heap.size A len xs) (hJ : PcsAt w w.heap.size A' len' ps) :
    Calls Try.prog 16 #[.slice A len cap, .slice A' len' cap'] w (RLayGave w (layS xs ps)) := by
  have HX := Lib.hid hI.size
  have HP := Lib.hid hJ.size
  by_cases hl : len = len'
  · subst hl
    obtain ⟨R, hR⟩ : ∃ R, layS xs ps = R := ⟨_, rfl⟩
    rw [hR]
    have h0 := layGo_start xs ps
    rw [hR] at h0
    have H0 := Lib.hid h0
    have HQ := Lib.hid hps
    clear hR h0 hps
    have b1 : ((len : Int) != (len : Int)) = false := by simp
    have b2 : (len != len) = false := by simp
    go_enter Try.func16, Try.ntmps16
    go_wp2_with fail
    go_loopw [6, 7] (fun u i wr => ∃ (k : Nat) (ys : List UInt8), k ≤ len ∧ i = .int .i64 (k : Int) ∧ Own8 wr w.heap.size u ys ∧ ys.length ≤ 1010 * k ∧ layGo ys (xs.drop k) (ps.drop k) = R ∧ Below w.heap.size w wr)
      (fun _ i _ => len - (intOf i).toNat)
    case atStart => exact ⟨0, [], Nat.zero_le _, rfl, Own8.nil_ _ _, Nat.zero_le _, H0.out, Below.refl _ _⟩
    case round =>
      obtain ⟨k, ys, hk, rfl, hO, hys, hg, hB⟩ := hrel
      have hsz := hB.size
      by_cases hlt : k < len
      · have hlt' : (k : Int) < (len : Int) := by omega
        have hk0 : (0 : Int) ≤ (k : Int) := by omega
        obtain ⟨b, off, rfl, hb, hcx⟩ := hI.2 (by omega)
        obtain ⟨b', off', rfl, hb', hcp⟩ := hJ.2 (by omega)
        obtain ⟨x, hx⟩ : ∃ x, xs[k]? = some x := ⟨_, List.getElem?_eq_getElem (by rw [HX.out]; exact hlt)⟩
        obtain ⟨p, hp⟩ : ∃ p, ps[k]? = some p := ⟨_, List.getElem?_eq_getElem (by rw [HP.out]; exact hlt)⟩
        obtain ⟨x0, x1, x2⟩ := hcx k x hx
        obtain ⟨p0, A2, l2, c2, p1, hr2⟩ := hcp k p hp
        rw [← hB.cell hb] at x0 x1 x2
        rw [← hB.cell hb'] at p0 p1
        have hqp := HQ.out p (List.mem_of_getElem? hp)
        have hdx : xs.drop k = x :: xs.drop (k + 1) := by
          have h1 := List.getElem?_eq_some_iff.1 hx
          rw [← h1.2]; exact List.drop_eq_getElem_cons h1.1
        have hdp : ps.drop k = p :: ps.drop (k + 1) := by
          have h1 := List.getElem?_eq_some_iff.1 hp
          rw [← h1.2]; exact List.drop_eq_getElem_cons h1.1
        rw [hdx, hdp] at hg
        have hl2 : l2 = p.bs.length := hr2.len.symm
        have hlb : l2 ≤ 1000 := by omega
        obtain ⟨xk, xn, xb⟩ := x
        clear hcx hcp hI hJ hx hp hdx hdp
        have HM := Lib.hid (fun W => rmay_any xk xn xb W)
        have hW0 : Below w.heap.size w ((wr.alloc (.cells #[.int .i64 xk, .int .i64 xn, .bool xb] 68)).alloc (.cells #[.int .u64 (p.n : Int), .slice A2 l2 c2] 70)) := (hB.alloc hsz _).alloc (by simp; omega) _
        have K0 : SL wr.heap.size xk xn xb p.n A2 l2 c2 ((wr.alloc (.cells #[.int .i64 xk, .int .i64 xn, .bool xb] 68)).alloc (.cells #[.int .u64 (p.n : Int), .slice A2 l2 c2] 70)) := by
          have hi := (Bk.new wr 68 #[.int .i64 xk, .int .i64 xn, .bool xb]).alloc (.cells #[.int .u64 (p.n : Int), .slice A2 l2 c2] 70)
          have hp := Bk.new (wr.alloc (.cells #[.int .i64 xk, .int .i64 xn, .bool xb] 68)) 70 #[.int .u64 (p.n : Int), .slice A2 l2 c2]
          rw [World.size_alloc] at hp
          exact ⟨hi.c 0 _ rfl, hi.c 1 _ rfl, hi.c 2 _ rfl, hp.c 0 _ rfl, hp.c 1 _ rfl⟩
        have p0' : (wr.alloc (.cells #[.int .i64 xk, .int .i64 xn, .bool xb] 68)).cell? ⟨b', off' + k * 2, none⟩ = some (.int .u64 (p.n : Int)) := by rw [World.cell?_alloc_lt _ _ _ (show b' < wr.heap.size by omega)]; exact p0
        have p1' : (wr.alloc (.cells #[.int .i64 xk, .int .i64 xn, .bool xb] 68)).cell? ⟨b', off' + k * 2 + 1, none⟩ = some (.slice A2 l2 c2) := by rw [World.cell?_alloc_lt _ _ _ (show b' < wr.heap.size by omega)]; exact p1
        have hO0 := (hO.alloc (.cells #[.int .i64 xk, .int .i64 xn, .bool xb] 68)).alloc (.cells #[.int .u64 (p.n : Int), .slice A2 l2 c2] 70)
        have hOl : ∀ g, u6.ownBlock = some g → w.heap.size ≤ g ∧ g < wr.heap.size := fun g hg => World.ownsRow.lt hO g hg
        cases hm : mayB xk xn with
        | false =>
          rw [layGo_bad (by unfold okPc; rw [hm]; rfl)] at hg
          subst hg
          rw [hm] at HM
          clear hm hO hys hr2 hqp hl2 hlb
          go_wp2_with fail
          refine (HM.out _).mono ?_
          rintro e w1 ⟨rfl, hb1⟩
          go_wp2_with fail
          go_ret2
          exact ⟨hW0.trans (hb1.mono (by simp; omega)), rfl⟩
        | true =>
          rw [hm] at HM
          have hpz := hqp.2
          have hil := itB_le xk xn xb p.n hqp.1 p.bs hpz
          have hlen2 : (ys ++ bytesPc ⟨xk, xn, xb⟩ p).length ≤ 1010 * (k + 1) := by rw [List.length_append]; show ys.length + (itB xk xn xb p.n p.bs).length ≤ _; omega
          cases ho : isB xk xn p.n l2 with
          | false =>
            rw [layGo_bad (by unfold okPc; rw [hm, ← hl2, ho]; rfl)] at hg
            subst hg
            rcases mayB_yes hm with ⟨rfl, h1, h8⟩ | rfl | ⟨rfl, h0⟩ | ⟨rfl, h0⟩
            · have hs : sizeOf8 xn = xn.toNat := by unfold sizeOf8; rw [if_neg (by omega), if_neg (by omega)]
              by_cases hz : 0 < l2
              · have hz' : (0 : Int) < (l2 : Int) := by omega
                clear ho hm hs hil hlen2 hl2
                go_wp2_with fail
                refine (HM.out _).mono ?_
                rintro e w1 ⟨rfl, hb1⟩
                have K1 : SL wr.heap.size 1 xn xb p.n A2 l2 c2 w1 := K0.below hb1 (by simp)
                obtain ⟨q0, q1, q2, q3, q4⟩ := id K1
                go_wp2_with fail
                go_quiet (fail)
                go_wp2_with fail
                go_ret2
                exact ⟨below_drewN (hW0.trans (hb1.mono (by simp; omega))) _, rfl⟩
              · obtain rfl : l2 = 0 := by omega
                have hN : ¬ p.n < 256 ^ xn.toNat := fun h => by
                  have : isB 1 xn p.n 0 = true := by unfold isB; rw [if_pos rfl]; exact decide_eq_true ⟨h, rfl⟩
                  rw [this] at ho; cases ho
                obtain ⟨G, hG⟩ : ∃ G, p.n % 256 ^ xn.toNat = G := ⟨_, rfl⟩
                have hGN : G ≠ p.n := by
                  have := Nat.mod_lt p.n (Nat.pow_pos (n := xn.toNat) (show 0 < 256 by decide))
                  omega
                have HPut := Lib.hid (fun W => rput_any p.n hqp.1 xn xb W)
                have HGet := Lib.hid (show ∀ (W : World) (A4 : Option Addr) (m4 c4 : Nat), Rd W W.heap.size A4 m4 (bytesOf p.n (sizeOf8 xn) xb) → Calls Try.prog 43 #[.slice A4 m4 c4, .bool xb] W (fun e w' => e = .returned (.int .u64 (G : Int)) ∧ W = w') from fun W A4 m4 c4 h => by
                  have h1 := rget_any A4 m4 c4 _ xb (by have := h.len; rw [bytesOf_length] at this; have := sizeOf8_le xn; omega) W h
                  rwa [get_put _ _ _ (sizeOf8_le xn), hs, hG] at h1)
                have be : ((G : Int) != (p.n : Int)) = true := bne_iff_ne.2 (by omega)
                have be' : (G != p.n) = true := bne_iff_ne.2 hGN
                clear ho hm hs hil hlen2 hl2 hN hG hGN hz
                go_wp2_with fail
                refine (HM.out _).mono ?_
                rintro e w1 ⟨rfl, hb1⟩
                have z1 : wr.heap.size + 2 ≤ w1.heap.size := by have := hb1.size; simpa using this
                have K1 : SL wr.heap.size 1 xn xb p.n A2 0 c2 w1 := K0.below hb1 (by simp)
                have K1d : SL wr.heap.size 1 xn xb p.n A2 0 c2 w1.drew := K1
                obtain ⟨q0, q1, q2, q3, q4⟩ := id K1
                go_wp2_with fail
                go_region_held3 (fun w' => w'.cell? ⟨wr.heap.size, 0, none⟩ = some (.int .i64 1) ∧ w'.cell? ⟨wr.heap.size, 1, none⟩ = some (.int .i64 xn) ∧ w'.cell? ⟨wr.heap.size, 2, none⟩ = some (.bool xb) ∧ w'.cell? ⟨wr.heap.size + 1, 0, none⟩ = some (.int .u64 (p.n : Int)) ∧ w'.cell? ⟨wr.heap.size + 1, 1, none⟩ = some (.slice A2 0 c2))
                  (first | exact K1d | exact K2 | fail)
                  (first
                    | (go_at_call 30; refine (HPut.out w1.drew).mono ?_; rintro e w2 ⟨v2, rfl, hv2, hb2⟩; obtain ⟨A4, m4, c4, rfl, hm4, hc4, hd4, hr4⟩ := hv2.sl; have HM4 := Lib.hid hm4; clear hm4 hc4 hd4; have K2 := K1d.below hb2 (by simp; omega))
                    | (go_at_call 43; refine (HGet.out _ _ _ _ hr4).mono ?_; rintro e w3 ⟨rfl, rfl⟩))
                go_wp2_with fail
                go_ret2
                exact ⟨(hW0.trans (hb1.mono (by simp; omega))).drew.trans (hb2.mono (by simp; omega)), rfl⟩
            · have hz : 0 < l2 := by
                rcases Nat.eq_zero_or_pos l2 with h | h
                · subst h
                  have : isB 2 xn p.n 0 = true := rfl
                  rw [this] at ho; cases ho
                · exact h
              have hz' : (0 : Int) < (l2 : Int) := by omega
              clear ho hm hil hlen2 hl2
              go_wp2_with fail
              refine (HM.out _).mono ?_
              rintro e w1 ⟨rfl, hb1⟩
              have K1 : SL wr.heap.size 2 xn xb p.n A2 l2 c2 w1 := K0.below hb1 (by simp)
              obtain ⟨q0, q1, q2, q3, q4⟩ := id K1
              go_wp2_with fail
              go_quiet (fail)
              go_wp2_with fail
              go_ret2
              exact ⟨below_drewN (hW0.trans (hb1.mono (by simp; omega))) _, rfl⟩
            · clear hm hil hlen2
              have hc : ¬ ((l2 : Int) = xn ∧ p.n = 0) := fun h => by
                have : isB 3 xn p.n l2 = true := decide_eq_true h
                rw [this] at ho; cases ho
              by_cases hN : p.n = 0
              · have c0 : ((p.n : Int) != 0) = false := by simp [hN]
                have c0' : (p.n != 0) = false := by simp [hN]
                have hne : (l2 : Int) ≠ xn := fun h => hc ⟨h, hN⟩
                have c1 : ((l2 : Int) != xn) = true := bne_iff_ne.2 hne
                clear hne
                clear ho hl2 hN hc
                go_wp2_with fail
                refine (HM.out _).mono ?_
                rintro e w1 ⟨rfl, hb1⟩
                have K1 : SL wr.heap.size 3 xn xb p.n A2 l2 c2 w1 := K0.below hb1 (by simp)
                obtain ⟨q0, q1, q2, q3, q4⟩ := id K1
                go_wp2_with fail
                go_ret2
                exact ⟨hW0.trans (hb1.mono (by simp; omega)), rfl⟩
              · have c0 : ((p.n : Int) != 0) = true := bne_iff_ne.2 (by omega)
                have c0' : (p.n != 0) = true := bne_iff_ne.2 hN
                clear ho hl2 hN hc
                go_wp2_with fail
                refine (HM.out _).mono ?_
                rintro e w1 ⟨rfl, hb1⟩
                have K1 : SL wr.heap.size 3 xn xb p.n A2 l2 c2 w1 := K0.below hb1 (by simp)
                obtain ⟨q0, q1, q2, q3, q4⟩ := id K1
                go_wp2_with fail
                go_ret2
                exact ⟨hW0.trans (hb1.mono (by simp; omega)), rfl⟩
            · clear hm hil hlen2
              have hc : ¬ ((l2 : Int) ≤ xn ∧ p.n = 0) := fun h => by
                have : isB 4 xn p.n l2 = true := decide_eq_true h
                rw [this] at ho; cases ho
              by_cases hN : p.n = 0
              · have c0 : ((p.n : Int) != 0) = false := by simp [hN]
                have c0' : (p.n != 0) = false := by simp [hN]
                have c1 : xn < (l2 : Int) := by have := fun h => hc ⟨h, hN⟩; omega
                clear ho hl2 hN hc
                go_wp2_with fail
                refine (HM.out _).mono ?_
                rintro e w1 ⟨rfl, hb1⟩
                have K1 : SL wr.heap.size 4 xn xb p.n A2 l2 c2 w1 := K0.below hb1 (by simp)
                obtain ⟨q0, q1, q2, q3, q4⟩ := id K1
                go_wp2_with fail
                go_ret2
                exact ⟨hW0.trans (hb1.mono (by simp; omega)), rfl⟩
              · have c0 : ((p.n : Int) != 0) = true := bne_iff_ne.2 (by omega)
                have c0' : (p.n != 0) = true := bne_iff_ne.2 hN
                clear ho hl2 hN hc
                go_wp2_with fail
                refine (HM.out _).mono ?_
                rintro e w1 ⟨rfl, hb1⟩
                have K1 : SL wr.heap.size 4 xn xb p.n A2 l2 c2 w1 := K0.below hb1 (by simp)
                obtain ⟨q0, q1, q2, q3, q4⟩ := id K1
                go_wp2_with fail
                go_ret2
                exact ⟨hW0.trans (hb1.mono (by simp; omega)), rfl⟩
          | true =>
            rw [layGo_ok (by unfold okPc; rw [hm, ← hl2, ho]; rfl)] at hg
            rcases mayB_yes hm with ⟨rfl, h1, h8⟩ | rfl | ⟨rfl, h0⟩ | ⟨rfl, h0⟩
            · have hs : sizeOf8 xn = xn.toNat := by unfold sizeOf8; rw [if_neg (by omega), if_neg (by omega)]
              obtain ⟨hN, rfl⟩ := of_decide_eq_true (show decide (p.n < 256 ^ xn.toNat ∧ l2 = 0) = true from ho)
              have hG := Nat.mod_eq_of_lt hN
              have HPut := Lib.hid (fun W => rput_any p.n hqp.1 xn xb W)
              have HGet := Lib.hid (show ∀ (W : World) (A4 : Option Addr) (m4 c4 : Nat), Rd W W.heap.size A4 m4 (bytesOf p.n (sizeOf8 xn) xb) → Calls Try.prog 43 #[.slice A4 m4 c4, .bool xb] W (fun e w' => e = .returned (.int .u64 (p.n : Int)) ∧ W = w') from fun W A4 m4 c4 h => by
                have h1 := rget_any A4 m4 c4 _ xb (by have := h.len; rw [bytesOf_length] at this; have := sizeOf8_le xn; omega) W h
                rwa [get_put _ _ _ (sizeOf8_le xn), hs, hG] at h1)
              have hby : bytesPc ⟨1, xn, xb⟩ p = bytesOf p.n (sizeOf8 xn) xb := rfl
              rw [hby] at hg hlen2
              have HG := Lib.hid hg
              have h8' := sizeOf8_le xn
              clear ho hm hs hil hl2 hN hG hg hby
              go_wp2_with fail
              refine (HM.out _).mono ?_
              rintro e w1 ⟨rfl, hb1⟩
              have z1 : wr.heap.size + 2 ≤ w1.heap.size := by have := hb1.size; simpa using this
              have B1 : Below w.heap.size w w1 := hW0.trans (hb1.mono (by simp; omega))
              have hO1 := hO0.below hb1
              have K1 : SL wr.heap.size 1 xn xb p.n A2 0 c2 w1 := K0.below hb1 (by simp)
              obtain ⟨q0, q1, q2, q3, q4⟩ := id K1
              have K1d : SL wr.heap.size 1 xn xb p.n A2 0 c2 w1.drew := K1
              go_wp2_with fail
              go_region_held3 (fun w' => w'.cell? ⟨wr.heap.size, 0, none⟩ = some (.int .i64 1) ∧ w'.cell? ⟨wr.heap.size, 1, none⟩ = some (.int .i64 xn) ∧ w'.cell? ⟨wr.heap.size, 2, none⟩ = some (.bool xb) ∧ w'.cell? ⟨wr.heap.size + 1, 0, none⟩ = some (.int .u64 (p.n : Int)) ∧ w'.cell? ⟨wr.heap.size + 1, 1, none⟩ = some (.slice A2 0 c2))
                (first | exact K1d | exact K2 | fail)
                (first
                  | (go_at_call 30; refine (HPut.out w1.drew).mono ?_; rintro e w2 ⟨v2, rfl, hv2, hb2⟩; obtain ⟨A4, m4, c4, rfl, hm4, hc4, hd4, hr4⟩ := hv2.sl; have HM4 := Lib.hid hm4; clear hm4 hc4 hd4; have K2 := K1d.below hb2 (by simp; omega))
                  | (go_at_call 43; refine (HGet.out _ _ _ _ hr4).mono ?_; rintro e w3 ⟨rfl, rfl⟩))
              have z2 : w1.heap.size ≤ w2.heap.size := by have := hb2.size; simpa using this
              have B2 := B1.drew.trans (hb2.mono (by simp; omega))
              have hO2 := hO1.drew.below hb2
              obtain ⟨r0, r1, r2, r3, r4⟩ := id K2
              clear q0 q1 q2 q3 q4 hv2
              go_wp2_with fail
              refine (HPut.out _).mono ?_
              rintro e w3 ⟨v3, rfl, hv3, hb3⟩
              obtain ⟨A5, m5, c5, rfl, hm5, hc5, hd5, hr5⟩ := hv3.sl
              have hm5' : m5 ≤ 8 := by rw [hm5, bytesOf_length]; exact h8'
              clear hm5 hc5 hd5
              have z3 := hb3.size
              have B3 := B2.trans (hb3.mono (by omega))
              have hO3 := hO2.below hb3
              go_wp2_with (at_builtin; refine wpList_append8 rfl _ _ rfl w.heap.size _ (ys) (by rfl) hO3 _ _ _ _ (bytesOf p.n (sizeOf8 xn) xb) (by rfl) hr5 (by omega) (by omega) ?_; intro v6 w4 ho4 hg4 _)
              have B4 := B3.grown hg4 (by omega) (fun g hg => (hOl g hg).1)
              go_roundw
              case rel => exact ⟨k + 1, _, by omega, by go_num, ho4, hlen2, HG.out, B4⟩
              case measure => simp [intOf]; omega
            · obtain rfl : l2 = 0 := of_decide_eq_true (show decide (l2 = 0) = true from ho)
              have HPut := Lib.hid (fun W => rvput_any p.n hqp.1 W)
              have hby : bytesPc ⟨2, xn, xb⟩ p = uvarint p.n := rfl
              have hv10 := uvarint_length64 hqp.1
              rw [hby] at hg hlen2
              have HG := Lib.hid hg
              clear ho hm hil hl2 hg hby
              go_wp2_with fail
              refine (HM.out _).mono ?_
              rintro e w1 ⟨rfl, hb1⟩
              have z1 : wr.heap.size + 2 ≤ w1.heap.size := by have := hb1.size; simpa using this
              have B1 : Below w.heap.size w w1 := hW0.trans (hb1.mono (by simp; omega))
              have hO1 := hO0.below hb1
              have K1 : SL wr.heap.size 2 xn xb p.n A2 0 c2 w1 := K0.below hb1 (by simp)
              obtain ⟨q0, q1, q2, q3, q4⟩ := id K1
              go_wp2_with fail
              go_quiet (fail)
              have K2 : SL wr.heap.size 2 xn xb p.n A2 0 c2 (w1.drewN nq) := K1
              have B2 := below_drewN B1 nq
              have hO2 : Own8 (w1.drewN nq) w.heap.size u6 ys := hO1
              obtain ⟨r0, r1, r2, r3, r4⟩ := id K2
              go_wp2_with fail
              refine (HPut.out _).mono ?_
              rintro e w3 ⟨v3, rfl, hv3, hb3⟩
              obtain ⟨A5, m5, c5, rfl, hm5, hc5, hd5, hr5⟩ := hv3.sl
              have hm5' : m5 ≤ 10 := by omega
              clear hm5 hc5 hd5
              have z3 : w1.heap.size ≤ w3.heap.size := hb3.size
              have B3 := B2.trans (hb3.mono (by show w.heap.size ≤ w1.heap.size; omega))
              have hO3 := hO2.below hb3
              go_wp2_with (at_builtin; refine wpList_append8 rfl _ _ rfl w.heap.size _ (ys) (by rfl) hO3 _ _ _ _ (uvarint p.n) (by rfl) hr5 (by omega) (by omega) ?_; intro v6 w4 ho4 hg4 _)
              have B4 := B3.grown hg4 (by omega) (fun g hg => (hOl g hg).1)
              go_roundw
              case rel => exact ⟨k + 1, _, by omega, by go_num, ho4, hlen2, HG.out, B4⟩
              case measure => simp [intOf]; omega
            · obtain ⟨rfl, hN⟩ := of_decide_eq_true (show decide ((l2 : Int) = xn ∧ p.n = 0) = true from ho)
              have hby : bytesPc ⟨3, (l2 : Int), xb⟩ p = p.bs := rfl
              rw [hby] at hg hlen2
              have HG := Lib.hid hg
              have c0 : ((p.n : Int) != 0) = false := by simp [hN]
              have c0' : (p.n != 0) = false := by simp [hN]
              clear ho hm hil hl2 hg hby hN
              go_wp2_with fail
              refine (HM.out _).mono ?_
              rintro e w1 ⟨rfl, hb1⟩
              have z1 : wr.heap.size + 2 ≤ w1.heap.size := by have := hb1.size; simpa using this
              have B1 : Below w.heap.size w w1 := hW0.trans (hb1.mono (by simp; omega))
              have hO1 := hO0.below hb1
              have K1 : SL wr.heap.size 3 (l2 : Int) xb p.n A2 l2 c2 w1 := K0.below hb1 (by simp)
              obtain ⟨q0, q1, q2, q3, q4⟩ := id K1
              have hr1 := hr2.below B1
              go_wp2_with (at_builtin; refine wpList_append8 rfl _ _ rfl w.heap.size _ (ys) (by rfl) hO1 _ _ _ _ (p.bs) (by rfl) hr1 (by omega) (by omega) ?_; intro v6 w4 ho4 hg4 _)
              have B4 := B1.grown hg4 (by omega) (fun g hg => (hOl g hg).1)
              go_roundw
              case rel => exact ⟨k + 1, _, by omega, by go_num, ho4, hlen2, HG.out, B4⟩
              case measure => simp [intOf]; omega
            · obtain ⟨hle, hN⟩ := of_decide_eq_true (show decide ((l2 : Int) ≤ xn ∧ p.n = 0) = true from ho)
              have hby : bytesPc ⟨4, xn, xb⟩ p = uvarint l2 ++ p.bs := by rw [hl2]; rfl
              rw [hby, ← List.append_assoc] at hg hlen2
              have HG := Lib.hid hg
              have c0 : ((p.n : Int) != 0) = false := by simp [hN]
              have c0' : (p.n != 0) = false := by simp [hN]
              have c1 : decide (xn < (l2 : Int)) = false := decide_eq_false (by omega)
              have hv10 := uvarint_length64 (show l2 < 18446744073709551616 by omega)
              have hlb' : (l2 : Int) ≤ 1000 := by omega
              have HPut := Lib.hid (fun W => rvput_any l2 (by omega) W)
              clear ho hm hil hl2 hg hby hN
              go_wp2_with fail
              refine (HM.out _).mono ?_
              rintro e w1 ⟨rfl, hb1⟩
              have z1 : wr.heap.size + 2 ≤ w1.heap.size := by have := hb1.size; simpa using this
              have B1 : Below w.heap.size w w1 := hW0.trans (hb1.mono (by simp; omega))
              have hO1 := hO0.below hb1
              have K1 : SL wr.heap.size 4 xn xb p.n A2 l2 c2 w1 := K0.below hb1 (by simp)
              obtain ⟨q0, q1, q2, q3, q4⟩ := id K1
              go_wp2_with fail
              refine (HPut.out _).mono ?_
              rintro e w3 ⟨v3, rfl, hv3, hb3⟩
              obtain ⟨A5, m5, c5, rfl, hm5, hc5, hd5, hr5⟩ := hv3.sl
              have hm5' : m5 ≤ 10 := by omega
              clear hm5 hc5 hd5
              have z3 : w1.heap.size ≤ w3.heap.size := hb3.size
              have B3 := B1.trans (hb3.mono (by omega))
              have hO3 := hO1.below hb3
              have K3 := K1.below hb3 (by omega)
              obtain ⟨r0, r1, r2, r3, r4⟩ := id K3
              have hz4 : ys.length + 10 + l2 ≤ 1999999999 := by omega
              clear q0 q1 q2 q3 q4 hv3
              go_wp2_with (at_builtin; first | (refine wpList_append8 rfl _ _ rfl w.heap.size _ ys (by rfl) hO3 _ _ _ _ (uvarint l2) (by rfl) hr5 (by omega) (by omega) ?_; intro v6 w4 ho4 hg4 _; have K4 := K3.grown hg4 (by omega) (fun e => by have := hOl _ e.symm; omega) (fun e => by have := hOl _ e.symm; omega); obtain ⟨s0, s1, s2, s3, s4⟩ := id K4; have B4 := B3.grown hg4 (by omega) (fun g hg => (hOl g hg).1); have z4 := hg4.size; have hr4 := hr2.below B4) | (refine wpList_append8 rfl _ _ rfl w.heap.size _ (ys ++ uvarint l2) (by rfl) ho4 _ _ _ _ p.bs (by rfl) hr4 (by rw [List.length_append]; omega) (by omega) ?_; intro v7 w5 ho5 hg5 _))
              have B5 := B4.grown hg5 (by omega) (fun g hg => ho4.lt g hg)
              go_roundw
              case rel => exact ⟨k + 1, _, by omega, by go_num, ho5, hlen2, HG.out, B5⟩
              case measure => simp [intOf]; omega
      · obtain rfl : k = len := by omega
        rw [List.drop_of_length_le (by rw [HX.out]; exact Nat.le_refl _), List.drop_of_length_le (by rw [HP.out]; exact Nat.le_refl _), layGo_nil] at hg
        subst hg
        go_wp2_with fail
        go_ret2
        exact ⟨hB, _, rfl, hO⟩
  · have e : layS xs ps = none := layS_len xs ps (by rw [HX.out, HP.out]; exact hl)
    rw [e]
    have b1 : ((len : Int) != (len' : Int)) = true := bne_iff_ne.2 (by omega)
    have b2 : (len != len') = true := bne_iff_ne.2 (by omega)
    clear e hl
    go_enter Try.func16, Try.ntmps16
    go_wp2_with fail
    go_ret2
    exact ⟨Below.refl _ _, rfl⟩
end Go.Proofs.Ytgcdjbhfphglfaa
