/-
  The contract of cursor.Lay.
-/
import Derived.Test.YtghocjigmcdobaaCLay1
namespace Go.Proofs.Ytghocjigmcdobaa
open Go.RowKit Go.Lib

def okPc (x : It) (p : Pc) : Bool := mayB x.k x.n && isB x.k x.n p.n p.bs.length
def bytesPc (x : It) (p : Pc) : List UInt8 := itB x.k x.n x.b p.n p.bs
/-- The bytes of pieces by their items, one behind the other, if each is one of its item. -/
def layS : List It → List Pc → Option (List UInt8)
  | [], [] => some []
  | x :: xs, p :: ps => if okPc x p = true then (layS xs ps).map (bytesPc x p ++ ·) else none
  | _, _ => none

theorem layS_nil : layS [] [] = some [] := rfl
theorem layS_ok {x : It} {p : Pc} (h : okPc x p = true) (xs : List It) (ps : List Pc) : layS (x :: xs) (p :: ps) = (layS xs ps).map (bytesPc x p ++ ·) := if_pos h
theorem layS_bad {x : It} {p : Pc} (h : okPc x p = false) (xs : List It) (ps : List Pc) : layS (x :: xs) (p :: ps) = none := by unfold layS; rw [h]; rfl
theorem layS_len : ∀ (xs : List It) (ps : List Pc), xs.length ≠ ps.length → layS xs ps = none
  | [], [], h => absurd rfl h
  | [], _ :: _, _ => rfl
  | _ :: _, [], _ => rfl
  | x :: xs, p :: ps, h => by
    unfold layS
    split
    · rw [layS_len xs ps (by simpa using h)]; rfl
    · rfl
/-- The reading of what is left, with what was laid ahead. -/
def layGo (ys : List UInt8) (xs : List It) (ps : List Pc) : Option (List UInt8) := (layS xs ps).map (ys ++ ·)
theorem layGo_nil (ys : List UInt8) : layGo ys [] [] = some ys := by simp [layGo, layS_nil]
theorem layGo_ok {x : It} {p : Pc} (h : okPc x p = true) (ys : List UInt8) (xs : List It) (ps : List Pc) : layGo ys (x :: xs) (p :: ps) = layGo (ys ++ bytesPc x p) xs ps := by
  unfold layGo
  rw [layS_ok h, Option.map_map]
  congr 1
  funext zs
  simp
theorem layGo_bad {x : It} {p : Pc} (h : okPc x p = false) (ys : List UInt8) (xs : List It) (ps : List Pc) : layGo ys (x :: xs) (p :: ps) = none := by
  unfold layGo; rw [layS_bad h]; rfl
theorem layGo_start (xs : List It) (ps : List Pc) : layGo [] xs ps = layS xs ps := by
  unfold layGo; cases layS xs ps <;> simp

theorem itB_le (k n : Int) (b : Bool) (N : Nat) (hN : N < 18446744073709551616) (bs : List UInt8) (hb : bs.length ≤ 1000) : (itB k n b N bs).length ≤ 1010 := by
  unfold itB
  split
  · rw [bytesOf_length]; have := sizeOf8_le n; omega
  · split
    · have := uvarint_length64 hN; omega
    · split
      · omega
      · rw [List.length_append]
        have := uvarint_length64 (show bs.length < 18446744073709551616 by omega)
        omega

/-- The greatest bound of a writer. -/
def maxI : Nat := 9223372036854775807
attribute [irreducible] maxI
theorem maxI_big : 1000000000 ≤ maxI ∧ maxI ≤ 9223372036854775807 := by unfold maxI; omega
theorem newmax (w : World) : Calls Try.prog 28 #[.int .i64 9223372036854775807] w fun e w' => e = .returned (.pointer (some ⟨w.heap.size, 0, none⟩)) ∧ Wtr w' w.heap.size (.slice none 0 0) ⟨maxI, [], 0⟩ ∧ Below w.heap.size w w' ∧ w'.heap.size = w.heap.size + 1 := by
  have h := neww_any 9223372036854775807 (Int.le_refl _) w
  have e : (9223372036854775807 : Int).toNat = maxI := by unfold maxI; rfl
  rw [e] at h
  exact h

theorem Wtr.drew {w : World} {P : Nat} {v : Value} {s : WS} (h : Wtr w P v s) : Wtr w.drew P v s := ⟨h.blk, h.own, h.le, h.big⟩
theorem WKeep.cell {w w' : World} {P : Nat} {v v' : Value} (hk : WKeep w w' P v v') {p : Addr} (hl : p.block < w.heap.size) (h1 : p.block ≠ P) (h2 : some p.block ≠ v.ownBlock) : w'.cell? p = w.cell? p := World.cell?_of_block (hk.block _ hl h1 h2)
/-- What Lay answers. -/
def LayGave (w : World) (r : Option (List UInt8)) (e : Ending) (w' : World) : Prop :=
  Below w.heap.size w w' ∧ match r with
    | some ys => ∃ v, e = .returned (.tuple #[v, .int .i64 0]) ∧ Own8 w' w.heap.size v ys
    | none => e = .returned (.tuple #[.slice none 0 0, .int .i64 1])

set_option maxRecDepth 100000 in
set_option maxHeartbeats 2000000 in
theorem lays_any (A : Option Addr) (len cap : Nat) (A' : Option Addr) (len' cap' : Nat) (xs : List It) (ps : List Pc) (hlen : len ≤ 1000) (hlen' : len' ≤ 1000) (hps : ∀ p ∈ ps, p.n < 18446744073709551616 ∧ p.bs.length ≤ 1000) (w : World)
    (hI : PlanAt w w.heap.size A len xs) (hJ : PcsAt w w.heap.size A' len' ps) :
    Calls Try.prog 15 #[.slice A len cap, .slice A' len' cap'] w (LayGave w (layS xs ps)) := by
  have HX := Lib.hid hI.size
  have HP := Lib.hid hJ.size
  by_cases hl : len = len'
  · subst hl
    obtain ⟨R, hR⟩ : ∃ R, layS xs ps = R := ⟨_, rfl⟩
    rw [hR]
    have h0 := layGo_start xs ps
    rw [hR] at h0
    have H0 := Lib.hid h0
    have HQ := Lib.hid hps
    clear hR h0 hps
    have b1 : ((len : Int) != (len : Int)) = false := by simp
    have b2 : (len != len) = false := by simp
    go_enter Try.func15, Try.ntmps15
    go_wp2_with fail
    refine (newmax _).mono ?_
    rintro e w1 ⟨rfl, hw1, hb1, hs1⟩
    have HS := Lib.hid hs1
    clear hs1
    go_wp2_with fail
    go_loopw [17] (fun i wr => ∃ (k : Nat) (v : Value) (s : WS), k ≤ len ∧ i = .int .i64 (k : Int) ∧ Wtr wr w.heap.size v s ∧ s.m = maxI ∧ s.f = 0 ∧ s.ys.length ≤ 1010 * k ∧ layGo s.ys (xs.drop k) (ps.drop k) = R ∧ Below w.heap.size w wr)
      (fun i _ => len - (intOf i).toNat)
    case atStart => exact ⟨0, _, _, Nat.zero_le _, rfl, hw1, rfl, rfl, Nat.le_refl _, H0.out, hb1⟩
    case round =>
      obtain ⟨k, v, s, hk, rfl, hw, hm0, hf, hys, hg, hB⟩ := hrel
      have hsz := hB.size
      by_cases hlt : k < len
      · have hlt' : (k : Int) < (len : Int) := by omega
        have hk0 : (0 : Int) ≤ (k : Int) := by omega
        obtain ⟨b, off, rfl, hb, hcx⟩ := hI.2 (by omega)
        obtain ⟨b', off', rfl, hb', hcp⟩ := hJ.2 (by omega)
        obtain ⟨x, hx⟩ : ∃ x, xs[k]? = some x := ⟨_, List.getElem?_eq_getElem (by rw [HX.out]; exact hlt)⟩
        obtain ⟨p, hp⟩ : ∃ p, ps[k]? = some p := ⟨_, List.getElem?_eq_getElem (by rw [HP.out]; exact hlt)⟩
        obtain ⟨x0, x1, x2⟩ := hcx k x hx
        obtain ⟨p0, A2, l2, c2, p1, hr2⟩ := hcp k p hp
        rw [← hB.cell hb] at x0 x1 x2
        rw [← hB.cell hb'] at p0 p1
        have hqp := HQ.out p (List.mem_of_getElem? hp)
        have hdx : xs.drop k = x :: xs.drop (k + 1) := by
          have h1 := List.getElem?_eq_some_iff.1 hx
          rw [← h1.2]; exact List.drop_eq_getElem_cons h1.1
        have hdp : ps.drop k = p :: ps.drop (k + 1) := by
          have h1 := List.getElem?_eq_some_iff.1 hp
          rw [← h1.2]; exact List.drop_eq_getElem_cons h1.1
        rw [hdx, hdp] at hg
        have hl2 : l2 = p.bs.length := hr2.len.symm
        have hlb : l2 ≤ 1000 := by omega
        have hPw := hw.lt
        have hBr : w.heap.size ≤ wr.heap.size := hsz
        clear hcx hcp hI hJ hx hp hdx hdp
        cases hm : mayB x.k x.n with
        | false =>
          have HM := Lib.hid (fun W => hm ▸ maybe_any x.k x.n x.b W)
          rw [layGo_bad (by unfold okPc; rw [hm]; rfl)] at hg
          subst hg
          clear hm hm0 hf hw hys p0 p1 hr2 hqp hl2 hlb
          go_wp2_with fail
          first | go_region_with ((go_at_call 40; refine (HM.out _).mono ?_; rintro e w1 ⟨rfl, hb2⟩)) | fail
          all_goals
            go_wp2_with fail
            go_ret2
            exact ⟨(hB.alloc hBr _).drew.trans (hb2.mono (by simp <;> omega)), rfl⟩
        | true =>
          have HM := Lib.hid (fun W => hm ▸ maybe_any x.k x.n x.b W)
          have hO : ∀ W, Calls Try.prog 41 #[.agg #[.int .i64 x.k, .int .i64 x.n, .bool x.b], .agg #[.int .u64 (p.n : Int), .slice A2 l2 c2]] W (Boxes W (isB x.k x.n p.n l2)) := fun W => isof_any x.k x.n hm x.b p.n hqp.1 A2 l2 c2 (by omega) W
          cases ho : isB x.k x.n p.n l2 with
          | false =>
            have HO := Lib.hid (fun W => ho ▸ hO W)
            rw [layGo_bad (by unfold okPc; rw [hm, ← hl2, ho]; rfl)] at hg
            subst hg
            clear hm hm0 hf hw hys hr2 hqp hl2 hO ho
            go_wp2_with fail
            go_region_held3 (fun w' => w'.cell? ⟨wr.heap.size, 0, none⟩ = some (.int .i64 x.k) ∧ w'.cell? ⟨wr.heap.size, 1, none⟩ = some (.int .i64 x.n) ∧ w'.cell? ⟨wr.heap.size, 2, none⟩ = some (.bool x.b) ∧ w'.cell? ⟨b', off' + k * 2, none⟩ = some (.int .u64 (p.n : Int)) ∧ w'.cell? ⟨b', off' + k * 2 + 1, none⟩ = some (.slice A2 l2 c2))
              (first
                | go_keep
                | (go_split_ands
                   refine ⟨?_, ?_, ?_, ?_, ?_⟩ <;> (rw [hb2.cell (by simp <;> omega)]; assumption))
                | (go_split_ands
                   refine ⟨?_, ?_, ?_, ?_, ?_⟩ <;> (rw [hb3.cell (by simp <;> omega)]; assumption))
                | fail)
              (first
                | (go_at_call 40; refine (HM.out _).mono ?_; rintro e w1 ⟨rfl, hb2⟩; have z2 : wr.heap.size + 1 ≤ w1.heap.size := (by have := hb2.size; simpa using this))
                | (go_at_call 41; refine (HO.out _).mono ?_; rintro e w2 ⟨rfl, hb3⟩))
            go_wp2_with fail
            go_ret2
            exact ⟨((hB.alloc hBr _).drew.trans (hb2.mono (by simp <;> omega))).trans (hb3.mono (by omega)), rfl⟩
          | true =>
            have HO := Lib.hid (fun W => ho ▸ hO W)
            rw [layGo_ok (by unfold okPc; rw [hm, ← hl2, ho]; rfl)] at hg
            have hpz := hqp.2
            have hil := itB_le x.k x.n x.b p.n hqp.1 p.bs hpz
            have hput : s.put (itB x.k x.n x.b p.n p.bs) = ⟨s.m, s.ys ++ bytesPc x p, s.f⟩ := WS.put_fits hf (by unfold WS.room; rw [hm0]; have := maxI_big; omega)
            have hlen2 : (s.ys ++ bytesPc x p).length ≤ 1010 * (k + 1) := by rw [List.length_append]; show s.ys.length + (itB x.k x.n x.b p.n p.bs).length ≤ _; omega
            have hlay : ∀ W, Wtr W w.heap.size v s → Rd W w.heap.size A2 l2 p.bs → Calls Try.prog 42 #[.pointer (some ⟨w.heap.size, 0, none⟩), .agg #[.int .i64 x.k, .int .i64 x.n, .bool x.b], .agg #[.int .u64 (p.n : Int), .slice A2 l2 c2]] W (Wrote W w.heap.size v ⟨s.m, s.ys ++ bytesPc x p, s.f⟩) := fun W h1 h2 => by
              have := lay_any h1 x.k x.n hm x.b p.n hqp.1 c2 h2 (by omega)
              rwa [hput] at this
            have HL := Lib.hid hlay
            have HG := Lib.hid hg
            have Hm0 := Lib.hid hm0
            have Hf := Lib.hid hf
            have a0 : some wr.heap.size ≠ v.ownBlock := fun e => by have := World.ownsRow.lt hw.own _ e.symm; omega
            have a1 : some b' ≠ v.ownBlock := fun e => by have := hw.own.lt _ e.symm; omega
            clear hm hm0 hf hg hys hqp hl2 hO ho hput hlay hpz hil
            go_wp2_with fail
            go_region_held3 (fun w' => w'.cell? ⟨wr.heap.size, 0, none⟩ = some (.int .i64 x.k) ∧ w'.cell? ⟨wr.heap.size, 1, none⟩ = some (.int .i64 x.n) ∧ w'.cell? ⟨wr.heap.size, 2, none⟩ = some (.bool x.b) ∧ w'.cell? ⟨b', off' + k * 2, none⟩ = some (.int .u64 (p.n : Int)) ∧ w'.cell? ⟨b', off' + k * 2 + 1, none⟩ = some (.slice A2 l2 c2))
              (first
                | go_keep
                | (go_split_ands
                   refine ⟨?_, ?_, ?_, ?_, ?_⟩ <;> (rw [hb2.cell (by simp <;> omega)]; assumption))
                | (go_split_ands
                   refine ⟨?_, ?_, ?_, ?_, ?_⟩ <;> (rw [hb3.cell (by simp <;> omega)]; assumption))
                | fail)
              (first
                | (go_at_call 40; refine (HM.out _).mono ?_; rintro e w1 ⟨rfl, hb2⟩; have z2 : wr.heap.size + 1 ≤ w1.heap.size := (by have := hb2.size; simpa using this))
                | (go_at_call 41; refine (HO.out _).mono ?_; rintro e w2 ⟨rfl, hb3⟩))
            have hbr : Below wr.heap.size wr w2 := (((Below.refl _ wr).alloc (Nat.le_refl _) _).drew).trans ((hb2.mono (by simp)).trans (hb3.mono (by omega)))
            have zb : wr.heap.size + 1 ≤ w2.heap.size := by have := hb3.size; omega
            have hW2 := hw.below hbr
            have hB2 := hB.trans (hbr.mono hBr)
            have hR2 := hr2.below hB2
            clear hb2 hb3
            go_wp2_with fail
            go_region_held3 (fun w' => w'.cell? ⟨wr.heap.size, 0, none⟩ = some (.int .i64 x.k) ∧ w'.cell? ⟨wr.heap.size, 1, none⟩ = some (.int .i64 x.n) ∧ w'.cell? ⟨wr.heap.size, 2, none⟩ = some (.bool x.b) ∧ w'.cell? ⟨b', off' + k * 2, none⟩ = some (.int .u64 (p.n : Int)) ∧ w'.cell? ⟨b', off' + k * 2 + 1, none⟩ = some (.slice A2 l2 c2))
              (first
                | go_keep
                | (go_split_ands
                   refine ⟨?_, ?_, ?_, ?_, ?_⟩ <;> (rw [hk3.cell (by simp <;> omega) (by simp <;> omega) (by first | exact a0 | exact a1)]; assumption))
                | fail)
              (first
                | (go_at_call 42; refine (HL.out _ ?_ ?_).mono ?_; exact hW2.drew; exact hR2.drew; rintro e w3 ⟨v3, rfl, hw3, hk3⟩))
            have hB3 := hB2.drew.trans (hk3.below_P (B := w.heap.size) (Nat.le_refl _) (by simp <;> omega) (fun g hg => by have := hw.own.lt g hg; omega))
            go_wp2_with fail
            go_roundw
            case rel => exact ⟨k + 1, v3, ⟨s.m, s.ys ++ bytesPc x p, s.f⟩, by omega, by go_num, hw3, Hm0.out, Hf.out, hlen2, HG.out, hB3⟩
            case measure => simp [intOf]; omega
      · obtain rfl : k = len := by omega
        rw [List.drop_of_length_le (by rw [HX.out]; exact Nat.le_refl _), List.drop_of_length_le (by rw [HP.out]; exact Nat.le_refl _), layGo_nil] at hg
        subst hg
        have Hf := Lib.hid hf
        have Hm0 := Lib.hid hm0
        clear hf hm0
        go_wp2_with fail
        refine (out_ok hw Hf.out (by omega)).mono ?_
        rintro e w3 ⟨u, rfl, hown, hb3⟩
        go_wp2_with fail
        go_ret2
        exact ⟨hB.trans (hb3.mono hsz), u, rfl, hown.base_le hsz⟩
  · have e : layS xs ps = none := layS_len xs ps (by rw [HX.out, HP.out]; exact hl)
    rw [e]
    have b1 : ((len' : Int) != (len : Int)) = true := bne_iff_ne.2 (by omega)
    have b2 : (len' != len) = true := bne_iff_ne.2 (by omega)
    clear e hl
    go_enter Try.func15, Try.ntmps15
    go_wp2_with fail
    go_ret2
    exact ⟨Below.refl _ _, rfl⟩
end Go.Proofs.Ytghocjigmcdobaa
