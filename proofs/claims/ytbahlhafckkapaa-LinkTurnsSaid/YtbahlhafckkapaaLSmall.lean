/-
  The contracts of link's small functions, and of the document's Tag and two.
-/
import Derived.Test.YtbahlhafckkapaaLCell
import Derived.Deep.QuietTactic
import Derived.BigQuiet
namespace Go.Proofs.Ytbahlhafckkapaa
open Go.RowKit Go.Lib

set_option maxHeartbeats 400000 in
theorem istag_any (n : Int) (w : World) : Calls Try.prog 20 #[.int .i64 n] w fun e w' => e = .returned (.bool (isTg n)) ∧ w = w' := by
  by_cases h1 : n = 33024
  · subst h1
    go_enter Try.func20, Try.ntmps20
    go_wp2
    go_ret
    exact ⟨rfl, rfl⟩
  · have b1 : (n == 33024) = false := beq_eq_false_iff_ne.2 h1
    by_cases h2 : n = 34984
    · subst h2
      clear h1
      go_enter Try.func20, Try.ntmps20
      go_wp2
      go_ret
      exact ⟨rfl, rfl⟩
    · have b2 : (n == 34984) = false := beq_eq_false_iff_ne.2 h2
      have e : isTg n = false := decide_eq_false (by omega)
      rw [e]
      clear h1 h2 e
      go_enter Try.func20, Try.ntmps20
      go_wp2
      go_ret
      exact ⟨rfl, rfl⟩
set_option maxHeartbeats 400000 in
theorem rtag_any (n : Int) (w : World) : Calls Try.prog 21 #[.int .i64 n] w fun e w' => e = .returned (.bool (isTg n)) ∧ w = w' := by
  by_cases h1 : n = 33024
  · subst h1
    go_enter Try.func21, Try.ntmps21
    go_wp2
    go_ret
    exact ⟨rfl, rfl⟩
  · have b1 : (n == 33024) = false := beq_eq_false_iff_ne.2 h1
    by_cases h2 : n = 34984
    · subst h2
      clear h1
      go_enter Try.func21, Try.ntmps21
      go_wp2
      go_ret
      exact ⟨rfl, rfl⟩
    · have b2 : (n == 34984) = false := beq_eq_false_iff_ne.2 h2
      have e : isTg n = false := decide_eq_false (by omega)
      rw [e]
      clear h1 h2 e
      go_enter Try.func21, Try.ntmps21
      go_wp2
      go_ret
      exact ⟨rfl, rfl⟩
set_option maxHeartbeats 400000 in
theorem fits_any (n : Int) (w : World) : Calls Try.prog 28 #[.int .i64 n] w fun e w' => e = .returned (.bool (fitsB n)) ∧ w = w' := by
  by_cases h1 : 0 ≤ n
  · by_cases h2 : n < 65536
    · have e : fitsB n = true := decide_eq_true ⟨h1, h2⟩
      rw [e]
      clear e
      go_enter Try.func28, Try.ntmps28
      go_wp2
      go_ret
      exact ⟨rfl, rfl⟩
    · have e : fitsB n = false := decide_eq_false (by omega)
      rw [e]
      clear e
      have b2 : decide (n < 65536) = false := decide_eq_false h2
      go_enter Try.func28, Try.ntmps28
      go_wp2
      go_ret
      exact ⟨rfl, rfl⟩
  · have e : fitsB n = false := decide_eq_false (by omega)
    rw [e]
    clear e
    have b2 : decide (0 ≤ n) = false := decide_eq_false h1
    go_enter Try.func28, Try.ntmps28
    go_wp2
    go_ret
    exact ⟨rfl, rfl⟩

set_option maxHeartbeats 400000 in
theorem isnum_yes (A : Option Addr) (len cap p : Nat) (hlen : len ≤ 1000000000) (h : p + 2 ≤ len) (w : World) :
    Calls Try.prog 18 #[.slice A len cap, .int .i64 (p : Int)] w fun e w' => e = .returned (.bool true) ∧ w = w' := by
  have h1 : (2 : Int) ≤ (len : Int) - (p : Int) := by omega
  have h2 : IntKind.i64.wrap ((len : Int) - (p : Int)) = (len : Int) - (p : Int) := by rw [IntKind.wrap_i64]; omega
  go_enter Try.func18, Try.ntmps18
  go_wp2
  go_ret
  exact ⟨rfl, rfl⟩
set_option maxHeartbeats 400000 in
theorem isnum_no (A : Option Addr) (len cap p : Nat) (hlen : len ≤ 1000000000) (hp : p ≤ 1000000000) (h : len < p + 2) (w : World) :
    Calls Try.prog 18 #[.slice A len cap, .int .i64 (p : Int)] w fun e w' => e = .returned (.bool false) ∧ w = w' := by
  have h1 : ¬ (2 : Int) ≤ (len : Int) - (p : Int) := by omega
  have h2 : IntKind.i64.wrap ((len : Int) - (p : Int)) = (len : Int) - (p : Int) := by rw [IntKind.wrap_i64]; omega
  go_enter Try.func18, Try.ntmps18
  go_wp2
  go_ret
  exact ⟨rfl, rfl⟩

set_option maxHeartbeats 1000000 in
theorem num_any {A : Option Addr} {len : Nat} {cap p : Nat} {xs : List UInt8} (hlen : len ≤ 1000000000) (hcap : len ≤ cap) (hcap2 : cap ≤ maxLen) (h : p + 2 ≤ len) {w : World} (hI : Rd w w.heap.size A len xs) :
    Calls Try.prog 19 #[.slice A len cap, .int .i64 (p : Int)] w fun e w' => e = .returned (.int .i64 (wd xs p : Nat)) ∧ Below w.heap.size w w' := by
  have hcut := run_cut8 A len cap p 2 (p : Int) ((p : Int) + 2) rfl (by omega) (by omega)
  have hr := hI.cut (l := p) (n := 2) h cap hcap
  have hg := get_any (cutA A cap p) 2 (cap - p) ((xs.drop p).take 2) true (by omega) (by omega) (by omega) w hr
  have e : getOf ((xs.drop p).take 2) true = wd xs p := by
    rw [← wd_num xs p (by rw [hI.len]; exact h)]
    unfold getOf
    rw [if_pos rfl, List.take_of_length_le (i := 8) (by rw [List.length_take]; omega)]
  rw [e] at hg
  have hlt := wd_lt xs p
  obtain ⟨n, hn⟩ : ∃ n, wd xs p = n := ⟨_, rfl⟩
  rw [hn] at hg hlt ⊢
  have HG := Lib.hid hg
  have hw : IntKind.i64.wrap ((p : Int) + 2) = (p : Int) + 2 := by rw [IntKind.wrap_i64]; omega
  clear hg e hn hr hI
  go_enter Try.func19, Try.ntmps19
  go_wp2_with fail
  refine HG.out.mono ?_
  rintro e w1 ⟨rfl, hb⟩
  go_wp2_with fail
  go_ret
  exact ⟨rfl, hb⟩

theorem isnum_yes' (A : Option Addr) (len cap p : Nat) (z : Int) (hz : z = (p : Int)) (hlen : len ≤ 1000000000) (h : p + 2 ≤ len) (w : World) :
    Calls Try.prog 18 #[.slice A len cap, .int .i64 z] w fun e w' => e = .returned (.bool true) ∧ w = w' := by subst hz; exact isnum_yes A len cap p hlen h w
theorem isnum_no' (A : Option Addr) (len cap p : Nat) (z : Int) (hz : z = (p : Int)) (hlen : len ≤ 1000000000) (hp : p ≤ 1000000000) (h : len < p + 2) (w : World) :
    Calls Try.prog 18 #[.slice A len cap, .int .i64 z] w fun e w' => e = .returned (.bool false) ∧ w = w' := by subst hz; exact isnum_no A len cap p hlen hp h w
theorem num_any' {A : Option Addr} {len : Nat} {cap p : Nat} {xs : List UInt8} (z : Int) (hz : z = (p : Int)) (n : Nat) (hn : wd xs p = n) (hlen : len ≤ 1000000000) (hcap : len ≤ cap) (hcap2 : cap ≤ maxLen) (h : p + 2 ≤ len) {w : World} (hI : Rd w w.heap.size A len xs) :
    Calls Try.prog 19 #[.slice A len cap, .int .i64 z] w fun e w' => e = .returned (.int .i64 (n : Int)) ∧ Below w.heap.size w w' := by subst hz hn; exact num_any hlen hcap hcap2 h hI

theorem Rd.cellD {w : World} {B n : Nat} {xs : List UInt8} {b off : Nat} (h : Rd w B (some ⟨b, off, none⟩) n xs) {k : Nat} (hk : k < n) : w.cell? ⟨b, off + k, none⟩ = some (.int .u8 ((xs.getD k 0).toNat : Int)) := by
  have := h.cell hk
  rw [List.getD, List.getElem?_eq_getElem (by rw [h.len]; exact hk)]
  exact this
set_option maxHeartbeats 1000000 in
theorem two_any {A : Option Addr} {len : Nat} {cap p : Nat} {xs : List UInt8} (hlen : len ≤ 1000000000) (h : p + 2 ≤ len) {w : World} {B : Nat} (hI : Rd w B A len xs) :
    Calls Try.prog 22 #[.slice A len cap, .int .i64 (p : Int)] w fun e w' => e = .returned (.int .i64 (wd xs p : Nat)) ∧ ∃ n, w' = w.drewN n := by
  obtain ⟨b, off, rfl, _⟩ := hI.addr (by omega)
  have c0 := hI.cellD (k := p) (by omega)
  have c1 := hI.cellD (k := p + 1) (by omega)
  have x0 := (xs.getD p 0).toNat_lt
  have x1 := (xs.getD (p + 1) 0).toNat_lt
  have e : (wd xs p : Nat) = 256 * (xs.getD p 0).toNat + (xs.getD (p + 1) 0).toNat := rfl
  generalize (xs.getD p 0).toNat = a at *
  generalize (xs.getD (p + 1) 0).toNat = c at *
  obtain ⟨r, hr⟩ : ∃ r : Nat, wd xs p = r := ⟨_, rfl⟩
  rw [hr] at e ⊢
  have E : ((r : Nat) : Int) = 256 * (a : Int) + (c : Int) := by omega
  have hw1 : IntKind.i64.wrap ((p : Int) + 1) = (p : Int) + 1 := by rw [IntKind.wrap_i64]; omega
  have hw2 : IntKind.i64.wrap (256 * (a : Int)) = 256 * (a : Int) := by rw [IntKind.wrap_i64]; omega
  have hw3 : IntKind.i64.wrap (256 * (a : Int) + (c : Int)) = 256 * (a : Int) + (c : Int) := by rw [IntKind.wrap_i64]; omega
  have hw4 : IntKind.i64.wrap (a : Int) = (a : Int) := by rw [IntKind.wrap_i64]; omega
  have hw5 : IntKind.i64.wrap (c : Int) = (c : Int) := by rw [IntKind.wrap_i64]; omega
  have l1 : (p : Int) < (len : Int) := by omega
  have l2 : (p : Int) + 1 < (len : Int) := by omega
  have t1 : ((p : Int) + 1).toNat = p + 1 := by omega
  have HE := Lib.hid E
  clear E e hr hI
  go_enter Try.func22, Try.ntmps22
  go_wp2_with fail
  go_quiet (fail)
  go_wp2_with fail
  go_ret
  exact ⟨by rw [HE.out]; rfl, _, rfl⟩

/-- Two bytes of a row are laid anew. -/
def put2 (ys : List UInt8) (off : Nat) (n : Nat) : List UInt8 := ys.take off ++ (be2 (n : Int) ++ ys.drop (off + 2))
theorem put2_len (ys : List UInt8) (off n : Nat) (h : off + 2 ≤ ys.length) : (put2 ys off n).length = ys.length := by
  unfold put2
  rw [List.length_append, List.length_append, List.length_take, List.length_drop, be2_len]; omega
set_option maxHeartbeats 1000000 in
theorem lay_any (n : Nat) (hn : n < 65536) {w : World} {g : Nat} {ys : List UInt8} (hrow : Row8 w g ys) (off m c : Nat) (hm : 2 ≤ m) (hoff : off + 2 ≤ ys.length) :
    Calls Try.prog 24 #[.slice (some ⟨g, off, none⟩) m c, .int .i64 (n : Int)] w fun e w' => e = .returned (.int .i64 2) ∧ Row8 w' g (put2 ys off n) ∧ w.grownBy w' (some g) := by
  have hp := put_any n 2 true w
  have e : bytesOf n (sizeOf8 2) true = be2 (n : Int) := by
    show (dig n 2).reverse = _
    exact be2_dig n
  rw [e] at hp
  have HP := Lib.hid hp
  have hw : IntKind.u64.wrap (n : Int) = (n : Int) := by rw [IntKind.wrap_u64]; omega
  clear hp e
  go_enter Try.func24, Try.ntmps24
  go_wp2_with fail
  refine HP.out.mono ?_
  rintro e w1 ⟨v, rfl, hown, hb⟩
  obtain ⟨A1, m1, c1, rfl, hm1, _, _, hrd⟩ := hown.sl
  have hm2 : m1 = 2 := hm1
  subst hm2
  have hrow1 : Row8 w1 g ys := (hb.block g hrow.lt).trans hrow
  obtain ⟨ad, rfl, hc⟩ := hrd.cells (by omega)
  have HR := Lib.hid hrow1
  have HC := Lib.hid hc
  clear hm1 hrow1 hc
  go_wp2_with ((with_reducible show wpList _ _ _ _ _ _); refine wpList_copy_own rfl (.tmp 5) (.tmp 8) 22 22 rfl 5 Try.underlying22 size8 g off m c ad _ _ (by rfl) (by rfl) (ys.map v8).toArray 5 HR.out ((be2 (n : Int)).map v8) (by rw [List.length_map, be2_len]; exact (Nat.min_eq_left hm).symm) HC.out (by rw [List.length_map, be2_len]; simpa using hoff) (oneCell8 _) ?_)
  go_ret
  refine ⟨rfl, ?_, ?_⟩
  · unfold Row8
    refine (setRow_heap w1 g _ _ 5 (0, 0) HR.out).trans ?_
    unfold put2
    simp [be2_len, List.map_take, List.map_drop]
  · exact gb_setRow (gb_below (World.grownBy.refl w (some g)) hb (Nat.le_refl _)) _
end Go.Proofs.Ytbahlhafckkapaa
