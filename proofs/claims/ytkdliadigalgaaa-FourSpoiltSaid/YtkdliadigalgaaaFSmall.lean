/-
  The contracts of four's small functions: num, head, lay, within.
-/
import Derived.Test.YtkdliadigalgaaaFCell
import Derived.Deep.QuietTactic
import Derived.Deep.RegionLaw
import Derived.BigQuiet
import Derived.Lib.VarintBits
namespace Go.Proofs.Ytkdliadigalgaaa
open Go.RowKit Go.Lib

theorem Rd.cellD {w : World} {B n : Nat} {xs : List UInt8} {b off : Nat} (h : Rd w B (some ⟨b, off, none⟩) n xs) {k : Nat} (hk : k < n) : w.cell? ⟨b, off + k, none⟩ = some (.int .u8 (batN xs k : Int)) := by
  have := h.cell hk
  unfold batN
  rw [List.getD, List.getElem?_eq_getElem (by rw [h.len]; exact hk)]
  exact this
theorem u8_and15 (x : Int) (h₀ : 0 ≤ x) (h₁ : x < 256) : bits .and .u8 x 15 = x % 16 := bits_mask .u8 8 (by decide) wraps_u8 4 (by decide) x h₀ h₁

set_option maxHeartbeats 1000000 in
theorem num_any {A : Option Addr} {len : Nat} {cap p : Nat} {xs : List UInt8} (z : Int) (hz : z = (p : Int)) (hlen : len ≤ 1000000000) (hcap : len ≤ cap) (hcap2 : cap ≤ maxLen) (h : p + 2 ≤ len) {w : World} (hI : Rd w w.heap.size A len xs) :
    Calls Try.prog 19 #[.slice A len cap, .int .i64 z] w fun e w' => e = .returned (.int .i64 (wat xs p : Nat)) ∧ Below w.heap.size w w' := by
  subst hz
  have hcut := run_cut8 A len cap p 2 (p : Int) ((p : Int) + 2) rfl (by omega) (by omega)
  have hr := hI.cut (l := p) (n := 2) h cap hcap
  have hg := get_any (cutA A cap p) 2 (cap - p) ((xs.drop p).take 2) true (by omega) (by omega) (by omega) w hr
  have e : getOf ((xs.drop p).take 2) true = wat xs p := by
    rw [← wat_num xs p (by rw [hI.len]; exact h)]
    unfold getOf
    rw [if_pos rfl, List.take_of_length_le (i := 8) (by rw [List.length_take]; omega)]
  rw [e] at hg
  have hlt := wat_lt xs p
  obtain ⟨n, hn⟩ : ∃ n, wat xs p = n := ⟨_, rfl⟩
  rw [hn] at hg hlt ⊢
  have HG := Lib.hid hg
  have hw : IntKind.i64.wrap ((p : Int) + 2) = (p : Int) + 2 := by rw [IntKind.wrap_i64]; omega
  clear hg e hn hr hI
  go_enter Try.func19, Try.ntmps19
  go_wp2_with fail
  refine HG.out.mono ?_
  rintro e w1 ⟨rfl, hb⟩
  go_wp2_with fail
  go_ret
  exact ⟨rfl, hb⟩

set_option maxHeartbeats 1000000 in
theorem head_any {A : Option Addr} {len : Nat} {cap : Nat} {xs : List UInt8} (h : 0 < len) {w : World} {B : Nat} (hI : Rd w B A len xs) :
    Calls Try.prog 20 #[.slice A len cap] w fun e w' => e = .returned (.int .i64 (ihl xs : Nat)) ∧ w = w' := by
  obtain ⟨b, off, rfl, _⟩ := hI.addr h
  have c0 := hI.cellD (k := 0) h
  have hx := batN_lt xs 0
  have e : (ihl xs : Nat) = 4 * (batN xs 0 % 16) := rfl
  rw [Nat.add_zero] at c0
  generalize batN xs 0 = x at *
  obtain ⟨r, hr⟩ : ∃ r, ihl xs = r := ⟨_, rfl⟩
  rw [hr] at e ⊢
  have ha := u8_and15 (x : Int) (by omega) (by omega)
  have E : ((r : Nat) : Int) = (x : Int) % 16 * 4 := by omega
  have hw : IntKind.i64.wrap ((x : Int) % 16 * 4) = (x : Int) % 16 * 4 := by rw [IntKind.wrap_i64]; omega
  have hw2 : IntKind.i64.wrap ((x : Int) % 16) = (x : Int) % 16 := by rw [IntKind.wrap_i64]; omega
  have l0 : (0 : Int) < (len : Int) := by omega
  have HE := Lib.hid E
  clear E e hr hI
  go_enter Try.func20, Try.ntmps20
  go_wp2_with fail
  go_ret
  exact ⟨by rw [HE.out]; rfl, rfl⟩

/-- Two bytes of a row are laid anew. -/
def put2 (ys : List UInt8) (off : Nat) (n : Nat) : List UInt8 := ys.take off ++ (be2 n ++ ys.drop (off + 2))
theorem put2_splice (ys : List UInt8) (off n : Nat) : splice (ys.map v8) off ((be2 n).map v8) = (put2 ys off n).map v8 := by
  unfold splice put2
  rw [List.map_append, List.map_append, List.map_take, List.map_drop, List.length_map, be2_len]
set_option maxHeartbeats 1000000 in
theorem lay_any (n : Nat) (hn : n < 65536) {w : World} {g : Nat} {ys : List UInt8} (hrow : Row8 w g ys) (N off : Nat) (hN : ys.length = N) (h1 : off + 2 ≤ N) (z y : Int) (hz : z = (off : Int)) (hy : y = (n : Int)) :
    Calls Try.prog 24 #[.slice (some ⟨g, 0, none⟩) N N, .int .i64 z, .int .i64 y] w fun e w' => e = .returned (.tuple #[]) ∧ Row8 w' g (put2 ys off n) ∧ Below g w w' := by
  subst hz hy
  have hp := fun W => put_any n 2 true W
  have e : bytesOf n (sizeOf8 2) true = be2 n := by
    show (dig n 2).reverse = be2 n
    exact be2_dig n
  rw [e] at hp
  have HP := Lib.hid hp
  have hw : IntKind.u64.wrap (n : Int) = (n : Int) := by rw [IntKind.wrap_u64]; omega
  have hcut : ∀ W, (Instr.slice 22 (.slice (some ⟨g, 0, none⟩) N N) (some (.int .i64 (off : Int))) none none).run Try.prog W = .ok (.slice (some ⟨g, off, none⟩) (N - off) (N - off)) W := fun W => by
    rw [run_from8 _ N N off (by omega)]
    unfold cutA
    rw [if_neg (by omega)]
    simp [add_plain]
  have hgl := hrow.lt
  have HROW := Lib.hid hrow
  clear hp e
  go_enter Try.func24, Try.ntmps24
  go_region_law (first
    | (rw [if_pos (by rfl)]; go_simp; refine (HP.out _).mono ?_; rintro e w1 ⟨v, rfl, hown, hb⟩; obtain ⟨A1, m1, c1, rfl, hm1, _, _, hrd⟩ := hown.sl; have hm2 : m1 = 2 := hm1; subst hm2; obtain ⟨ad, rfl, hc⟩ := hrd.cells (by omega); have HD := Lib.hid hc; have HB := Lib.hid hb; have hR1 : Row8 w1 g ys := (hb.block g hgl).trans HROW.out; have HR1 := Lib.hid hR1; clear hc hm1 hb hown hrd hR1)
    | (refine step_copy_splice rfl (.tmp 8) (.tmp 11) 22 22 rfl 5 Try.underlying22 size8 (some ⟨g, off, none⟩) (some ad) (N - off) (N - off) 2 c1 (by simp [Act.eval]) (by simp [Act.eval]) g off (ys.map v8) 5 HR1.out ((be2 n).map v8) (by rw [List.length_map, be2_len]; exact (Nat.min_eq_left (by omega)).symm) (fun h0 => ⟨rfl, ad, rfl, HD.out⟩) (by rw [List.length_map, List.length_map, be2_len, hN]; exact h1) (oneCell8 _) g w1 (Below.refl _ _) (Nat.le_refl _) ?_; intro w5 HG5 hB5; rw [put2_splice] at HG5))
  go_wp2_with fail
  go_end0
  exact ⟨rfl, HG5.out, (below_drewN (Below.refl g w) 1).trans ((HB.out.mono (Nat.le_of_lt hgl)).trans hB5)⟩

set_option maxHeartbeats 1000000 in
theorem within_any (n lo hi : Int) (w : World) : Calls Try.prog 31 #[.int .i64 n, .int .i64 lo, .int .i64 hi] w fun e w' => e = .returned (.bool (inB n lo hi)) ∧ w = w' := by
  by_cases h1 : lo ≤ n
  · have d1 : decide (lo ≤ n) = true := decide_eq_true h1
    by_cases h2 : n ≤ hi
    · have e : inB n lo hi = true := decide_eq_true ⟨h1, h2⟩
      rw [e]
      clear e
      go_enter Try.func31, Try.ntmps31
      go_wp2
      go_ret
      exact ⟨rfl, rfl⟩
    · have e : inB n lo hi = false := decide_eq_false (fun h => h2 h.2)
      rw [e]
      clear e
      have b2 : decide (n ≤ hi) = false := decide_eq_false h2
      go_enter Try.func31, Try.ntmps31
      go_wp2
      go_ret
      exact ⟨rfl, rfl⟩
  · have e : inB n lo hi = false := decide_eq_false (fun h => h1 h.1)
    rw [e]
    clear e
    have b2 : decide (lo ≤ n) = false := decide_eq_false h1
    go_enter Try.func31, Try.ntmps31
    go_wp2
    go_ret
    exact ⟨rfl, rfl⟩
end Go.Proofs.Ytkdliadigalgaaa
