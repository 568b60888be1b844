/-
  Plans and pieces in memory; the contract of cursor.lay: a piece is written.
-/
import Derived.Test.YtghocjigmcdobaaCItem
import Derived.Deep.RegionHeld3
namespace Go.Proofs.Ytghocjigmcdobaa
open Go.RowKit Go.Lib

/-- A piece: its number, its bytes. -/
structure Pc where
  n : Nat
  bs : List UInt8

/-- The slice reads as these items. -/
def PlanAt (w : World) (B : Nat) (A : Option Addr) (len : Nat) (xs : List It) : Prop :=
  xs.length = len ∧ (0 < len → ∃ b off, A = some ⟨b, off, none⟩ ∧ b < B ∧ ∀ (j : Nat) (x : It), xs[j]? = some x →
    w.cell? ⟨b, off + j * 3, none⟩ = some (.int .i64 x.k) ∧ w.cell? ⟨b, off + j * 3 + 1, none⟩ = some (.int .i64 x.n) ∧ w.cell? ⟨b, off + j * 3 + 2, none⟩ = some (.bool x.b))
/-- The slice reads as these pieces. -/
def PcsAt (w : World) (B : Nat) (A : Option Addr) (len : Nat) (ps : List Pc) : Prop :=
  ps.length = len ∧ (0 < len → ∃ b off, A = some ⟨b, off, none⟩ ∧ b < B ∧ ∀ (j : Nat) (p : Pc), ps[j]? = some p →
    w.cell? ⟨b, off + j * 2, none⟩ = some (.int .u64 (p.n : Int)) ∧ ∃ A' l' c', w.cell? ⟨b, off + j * 2 + 1, none⟩ = some (.slice A' l' c') ∧ Rd w B A' l' p.bs)

section
variable {w w' : World} {B B' len : Nat} {A : Option Addr} {xs : List It} {ps : List Pc}
theorem PlanAt.size (h : PlanAt w B A len xs) : xs.length = len := h.1
theorem PlanAt.keep (h : PlanAt w B A len xs) (hk : ∀ p : Addr, p.block < B → w'.cell? p = w.cell? p) : PlanAt w' B A len xs :=
  ⟨h.1, fun hn => by
    obtain ⟨b, off, e, hb, hc⟩ := h.2 hn
    refine ⟨b, off, e, hb, fun j x hx => ?_⟩
    obtain ⟨h1, h2, h3⟩ := hc j x hx
    exact ⟨(hk _ hb).trans h1, (hk _ hb).trans h2, (hk _ hb).trans h3⟩⟩
theorem PlanAt.below (h : PlanAt w B A len xs) (hb : Below B w w') : PlanAt w' B A len xs := h.keep fun _ hp => hb.cell hp
theorem PcsAt.size (h : PcsAt w B A len ps) : ps.length = len := h.1
theorem PcsAt.keep (h : PcsAt w B A len ps) (hk : ∀ p : Addr, p.block < B → w'.cell? p = w.cell? p) : PcsAt w' B A len ps :=
  ⟨h.1, fun hn => by
    obtain ⟨b, off, e, hb, hc⟩ := h.2 hn
    refine ⟨b, off, e, hb, fun j p hp => ?_⟩
    obtain ⟨h1, A', l', c', h2, h3⟩ := hc j p hp
    exact ⟨(hk _ hb).trans h1, A', l', c', (hk _ hb).trans h2, h3.keep hk⟩⟩
theorem PcsAt.below (h : PcsAt w B A len ps) (hb : Below B w w') : PcsAt w' B A len ps := h.keep fun _ hp => hb.cell hp
theorem PlanAt.more (h : PlanAt w B A len xs) (hB : B ≤ B') : PlanAt w B' A len xs :=
  ⟨h.1, fun hn => by
    obtain ⟨b, off, e, hb, hc⟩ := h.2 hn
    exact ⟨b, off, e, by omega, hc⟩⟩
theorem PcsAt.more (h : PcsAt w B A len ps) (hB : B ≤ B') : PcsAt w B' A len ps :=
  ⟨h.1, fun hn => by
    obtain ⟨b, off, e, hb, hc⟩ := h.2 hn
    refine ⟨b, off, e, by omega, fun j p hp => ?_⟩
    obtain ⟨h1, A', l', c', h2, h3⟩ := hc j p hp
    exact ⟨h1, A', l', c', h2, h3.more hB⟩⟩
end

/-- The bytes of a piece, by its item. -/
def itB (k n : Int) (b : Bool) (N : Nat) (bs : List UInt8) : List UInt8 :=
  if k = 1 then bytesOf N (sizeOf8 n) b else if k = 2 then uvarint N else if k = 3 then bs else uvarint bs.length ++ bs

set_option maxRecDepth 100000 in
set_option maxHeartbeats 2000000 in
theorem lay_any {w : World} {P : Nat} {v : Value} {s : WS} (h : Wtr w P v s) (k n : Int) (hm : mayB k n = true) (b : Bool) (N : Nat) (hN : N < 18446744073709551616) {A : Option Addr} {len : Nat} (cap : Nat) {bs : List UInt8} (hr : Rd w P A len bs) (hlen : s.ys.length + bs.length ≤ 900000000) :
    Calls Try.prog 42 #[.pointer (some ⟨P, 0, none⟩), .agg #[.int .i64 k, .int .i64 n, .bool b], .agg #[.int .u64 (N : Int), .slice A len cap]] w (Wrote w P v (s.put (itB k n b N bs))) := by
  have hB2 : ∀ C D : Obj, Below w.heap.size w ((w.alloc C).alloc D) := fun C D => ((Below.refl _ _).alloc (Nat.le_refl _) _).alloc (by simp) _
  rcases mayB_yes hm with ⟨rfl, h1, h8⟩ | rfl | ⟨rfl, h0⟩ | ⟨rfl, h0⟩
  · have e : itB 1 n b N bs = bytesOf N (sizeOf8 n) b := if_pos rfl
    have e2 : s.num N n b = s.put (bytesOf N (sizeOf8 n) b) := if_pos ⟨h1, h8⟩
    rw [e, ← e2]
    have HB := Lib.hid hB2
    clear hm e e2 hB2 h1 h8
    go_enter Try.func42, Try.ntmps42
    go_wp2_with fail
    refine (wnum_any (h.below (HB.out _ _)) N n b (by omega)).mono ?_
    rintro e w1 ⟨v', rfl, h1, k1⟩
    go_wp2_with fail
    go_end0
    exact ⟨v', rfl, h1, ((WKeep.refl w P v).below (HB.out _ _) (Nat.le_refl _)).trans k1⟩
  · have e : itB 2 n b N bs = uvarint N := rfl
    rw [e]
    have HB := Lib.hid hB2
    clear hm e hB2
    go_enter Try.func42, Try.ntmps42
    go_wp2_with fail
    refine (wvar_any (h.below (HB.out _ _)) N hN (by omega)).mono ?_
    rintro e w1 ⟨v', rfl, h1, k1⟩
    go_wp2_with fail
    go_end0
    exact ⟨v', rfl, h1, ((WKeep.refl w P v).below (HB.out _ _) (Nat.le_refl _)).trans k1⟩
  · have e : itB 3 n b N bs = bs := rfl
    rw [e]
    have HB := Lib.hid hB2
    clear hm e hB2 h0
    go_enter Try.func42, Try.ntmps42
    go_wp2_with fail
    refine (wbytes_any (h.below (HB.out _ _)) cap (hr.below ((HB.out _ _).mono (Nat.le_of_lt h.lt))) (by omega)).mono ?_
    rintro e w1 ⟨v', rfl, h1, k1⟩
    go_wp2_with fail
    go_end0
    exact ⟨v', rfl, h1, ((WKeep.refl w P v).below (HB.out _ _) (Nat.le_refl _)).trans k1⟩
  · have e : itB 4 n b N bs = uvarint bs.length ++ bs := rfl
    rw [e]
    have HB := Lib.hid hB2
    clear hm e hB2 h0
    go_enter Try.func42, Try.ntmps42
    go_wp2_with fail
    refine (wtext_any (h.below (HB.out _ _)) cap (hr.below ((HB.out _ _).mono (Nat.le_of_lt h.lt))) (by omega)).mono ?_
    rintro e w1 ⟨v', rfl, h1, k1⟩
    go_wp2_with fail
    go_end0
    exact ⟨v', rfl, h1, ((WKeep.refl w P v).below (HB.out _ _) (Nat.le_refl _)).trans k1⟩
end Go.Proofs.Ytghocjigmcdobaa
