/-
  The statements' own 'awake' (layer 5) answers true.
-/
import Derived.Test.YtaabfhfiipmhcaaRAll
import Derived.Lib.SlBytesConst
namespace Go.Proofs.Ytaabfhfiipmhcaa
open Go.RowKit Go.Lib

theorem Rd.marked (w : World) (xs : List UInt8) (fr : Nat × Nat) : Rd (w.alloc (.cells (xs.map v8).toArray 5 fr)) (w.heap.size + 1) (some ⟨w.heap.size, 0, none⟩) xs.length xs :=
  ⟨rfl, fun _ => ⟨w.heap.size, 0, rfl, by omega, fun j x hx => by
    rw [Nat.zero_add, cell_of_row _ w.heap.size j _ _ fr (heap_alloc_new w _)]
    simp [hx]⟩⟩
/-- record.Put, its answer written out. -/
theorem rput_at (A : Option Addr) (len cap : Nat) (xs : List UInt8) (hlen : len ≤ 1048576) (hcap : len ≤ cap) (hcm : cap ≤ maxLen) (n : Nat) (hn : (recOf xs).length = n) (w : World) (hI : Rd w w.heap.size A len xs) :
    Calls Try.prog 11 #[.slice A len cap] w fun e W' => ∃ g c, e = .returned (.tuple #[.slice (some ⟨g, 0, none⟩) n c, .int .i64 0]) ∧ Own8 W' w.heap.size (.slice (some ⟨g, 0, none⟩) n c) (recOf xs) ∧ n ≤ c ∧ c ≤ maxLen ∧ w.heap.size ≤ g ∧ Rd W' W'.heap.size (some ⟨g, 0, none⟩) n (recOf xs) ∧ Below w.heap.size w W' :=
  (rput_rec A len cap xs hlen hcap hcm w hI).mono fun e W' ⟨v, he, ho, hb⟩ => by
    subst hn
    obtain ⟨A', c, rfl, h1, h2, hr, hg⟩ := ho.rd
    obtain ⟨g, rfl, hbg⟩ := hg (by rw [recOf_len]; omega)
    exact ⟨g, c, he, ho, h1, h2, hbg, hr, hb⟩
/-- record.Next, its answer written out. -/
theorem next_at (A : Option Addr) (len cap : Nat) (xs : List UInt8) (hlen : len ≤ 100000) (hcap : len ≤ cap) (hcm : cap ≤ maxLen) (r : NX) (hr : nextOf xs = r) (n : Nat) (hn : r.body.length = n) (w : World) (hI : Rd w w.heap.size A len xs) :
    Calls Try.prog 16 #[.slice A len cap] w fun e W' => ∃ A' c, e = .returned (.tuple #[.slice A' n c, .int .i64 (r.n : Int), .int .i64 (r.e : Int)]) ∧ Rd W' W'.heap.size A' n r.body ∧ Below w.heap.size w W' :=
  (next_any A len cap xs hlen hcap hcm w hI).mono fun e W' ⟨v, he, ho, hb⟩ => by
    subst hn hr
    obtain ⟨A', c, rfl, h1, h2, h3, _⟩ := ho.rd
    exact ⟨A', c, he, h3, hb⟩

theorem uv2 : uvarint 2 = [2] := by rw [uvarint_small (by omega)]; rfl
theorem uv0 : uvarint 0 = [0] := by rw [uvarint_small (by omega)]; rfl
theorem aw_len7 : (recOf [97, 98]).length = 7 := by rw [recOf_len, show ([97, 98] : List UInt8).length = 2 from rfl, uv2]; rfl
theorem aw_len5 : (recOf []).length = 5 := by rw [recOf_len, show ([] : List UInt8).length = 0 from rfl, uv0]; rfl
theorem aw_head : (recOf [])[0]? = some 0 := by rw [recOf, headOf, show ([] : List UInt8).length = 0 from rfl, uv0]; rfl
theorem aw_next : nextOf [0, 1, 2, 3, 4] = ⟨[], 0, 8⟩ := by kernel_rfl
theorem aw_nil : nextOf [] = ⟨[], 0, 2⟩ := by kernel_rfl
theorem aw_size (w : World) : Calls Try.prog 14 #[.int .i64 2] w fun e w' => e = .returned (.int .i64 7) ∧ w = w' :=
  (rsize_any 2 (by omega) w).mono fun e w' ⟨h1, h2⟩ => ⟨by rw [h1, uv2]; rfl, h2⟩
theorem aw1 (w : World) : Calls Try.prog 11 #[.slice (some ⟨w.heap.size, 0, none⟩) 2 2] (w.alloc (.cells #[.int .u8 97, .int .u8 98] 5 (2, 3))) fun e W' => ∃ g c, e = .returned (.tuple #[.slice (some ⟨g, 0, none⟩) 7 c, .int .i64 0]) ∧ Rd W' W'.heap.size (some ⟨g, 0, none⟩) 7 (recOf [97, 98]) ∧ Below w.heap.size w W' := by
  have hr := Rd.marked w [97, 98] (2, 3)
  refine (rput_at _ 2 2 _ (by omega) (by omega) (by simp [maxLen]) 7 aw_len7 _ (hr.more (by simp))).mono fun e W' h => ?_
  obtain ⟨g, c, he, _, _, _, _, h2, h3⟩ := h
  exact ⟨g, c, he, h2, ((Below.refl _ _).alloc (Nat.le_refl _) _).trans (h3.mono (by simp))⟩
theorem aw5 (w : World) : Calls Try.prog 16 #[.slice (some ⟨w.heap.size, 0, none⟩) 5 5] (w.alloc (.cells #[.int .u8 0, .int .u8 1, .int .u8 2, .int .u8 3, .int .u8 4] 5)) fun e W' => ∃ A' c, e = .returned (.tuple #[.slice A' 0 c, .int .i64 0, .int .i64 8]) ∧ Below w.heap.size w W' := by
  have hr := Rd.marked w [0, 1, 2, 3, 4] (0, 0)
  refine (next_at _ 5 5 _ (by omega) (by omega) (by simp [maxLen]) _ aw_next 0 rfl _ (hr.more (by simp))).mono fun e W' h => ?_
  obtain ⟨A', c, he, _, h3⟩ := h
  exact ⟨A', c, he, ((Below.refl _ _).alloc (Nat.le_refl _) _).trans (h3.mono (by simp))⟩

set_option maxRecDepth 100000 in
set_option maxHeartbeats 4000000 in
theorem awake_any (w : World) : Calls Try.prog 10 #[] w fun e W' => e = .returned (.bool true) ∧ Below w.heap.size w W' := by
  have kc := fun (w : World) (C : Array Value) (n c : Nat) => Lib.run_convert_bytes_const (P := Try.prog) w 22 5 C n c Try.underlying22 Try.underlying5
  go_enter Try.func10, Try.ntmps10
  go_wp2_with fail
  refine (aw1 _).mono ?_
  rintro e w1 ⟨g, c, rfl, hr1, hb1⟩
  have z1 := hb1.size
  have how := empty8 (base := w1.heap.size) w1 (Nat.le_refl _)
  have q1 := hr1.alloc (Nat.le_refl _) (.cells #[] 5)
  obtain ⟨R, hR⟩ : ∃ R, recOf [97, 98] = R := ⟨_, rfl⟩
  have hRl : R.length = 7 := by rw [← hR]; exact aw_len7
  have hRn : nextOf (R ++ [9]) = ⟨[97, 98], 7, 0⟩ := by rw [← hR, next_rec _ _ (by simp), aw_len7]
  rw [hR] at q1
  have HR := Lib.hid hRl
  have HN := Lib.hid hRn
  clear hR hRl hRn hr1
  go_wp2_with (first
    | (at_builtin; refine wpList_append8 (o := ⟨some 23, _, _, _, _, _⟩) rfl _ _ rfl w1.heap.size _ [] (by rfl) how _ _ _ _ R (by rfl) q1 (by simp) (by simp) ?_; intro v2 w2 ho2 hg2 _; have hb2 := ((Below.refl w1.heap.size w1).alloc (Nat.le_refl _) (.cells #[] 5)).grown hg2 (by simp) how.lt; rw [List.nil_append] at ho2; have z2 := hb2.size)
    | (at_builtin; refine wpList_append8 (o := ⟨some 25, _, _, _, _, _⟩) rfl _ _ rfl w1.heap.size _ R (by rfl) (ho2.alloc _) _ _ _ _ [9] (by rfl) (Rd.one w2 9) (by have := HR.out; omega) (by simp; omega) ?_; intro v3 w3 ho3 hg3 _; have hb3 := (hb2.alloc z2 (.cells #[.int .u8 ((9 : UInt8).toNat : Int)] 5)).grown hg3 (by simp; omega) ho2.lt; obtain ⟨A3, m3, c3, rfl, hm3, hmc3, hcm3, hr3⟩ := ho3.sl; have HM3 := Lib.hid hm3; clear hm3))
  have B3 := hb1.trans (hb3.mono z1)
  have z3 := B3.size
  refine (next_at A3 m3 c3 _ (by have := HM3.out; have := HR.out; rw [HM3.out, List.length_append]; simp; omega) hmc3 hcm3 _ HN.out 2 rfl _ hr3).mono ?_
  rintro e w4 ⟨A4, c4, rfl, hr4, hb4⟩
  have B4 := B3.trans (hb4.mono z3)
  go_wp2_with fail
  refine (next_at none 0 0 [] (by omega) (by omega) (by simp [maxLen]) _ aw_nil 0 rfl _ (Rd.nil_ _)).mono ?_
  rintro e w5 ⟨A5, c5, rfl, _, hb5⟩
  have B5 := B4.trans (hb5.mono B4.size)
  have hr5 := (hr4.below hb5).more hb5.size
  go_wp2_with fail
  refine (rput_at none 0 0 [] (by omega) (by omega) (by simp [maxLen]) 5 aw_len5 _ (Rd.nil_ _)).mono ?_
  rintro e w6 ⟨g6, c6, rfl, _, _, _, _, hr6, hb6⟩
  have B6 := B5.trans (hb6.mono B5.size)
  have hr7 := (hr5.below hb6).more hb6.size
  go_wp2_with fail
  refine (aw5 _).mono ?_
  rintro e w7 ⟨A7, c7, rfl, hb7⟩
  have B7 := B6.trans (hb7.mono B6.size)
  have hr8 := (hr7.below hb7).more hb7.size
  have hr9 := (hr6.below hb7).more hb7.size
  have hs8 := run_str8 hr8 c4
  have c9 : w7.cell? ⟨g6, 0, none⟩ = some (.int .u8 0) := by
    obtain ⟨b, off, e, _, hc⟩ := hr9.2 (by omega)
    cases e
    exact hc 0 0 aw_head
  clear hr8 hr9 hr7 hr6 hr5 hr4 hr3
  go_wp2_with (go_at_call 14; refine (aw_size _).mono ?_; rintro e w8 ⟨rfl, rfl⟩)
  go_ret
  exact ⟨rfl, B7⟩
end Go.Proofs.Ytaabfhfiipmhcaa
