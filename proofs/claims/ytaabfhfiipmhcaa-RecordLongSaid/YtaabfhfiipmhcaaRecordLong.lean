/-
  PROVED HERE: 'RecordLongSaid': whatever c is, the Go function RecordLong of package wayleavelaw05 returns true. No condition.
-/
import Derived.Test.YtaabfhfiipmhcaaROpen
namespace Go.Proofs.Ytaabfhfiipmhcaa
open Go.RowKit Go.Lib Go.ChangeShapes Go.WideShapes Go.ChangeAt

/-- A slice of two that was just laid in a block of its own. -/
theorem LsAt.two {w : World} {B n c n' c' : Nat} {A A' : Option Addr} {xs ys : List UInt8} (h : Rd w B A n xs) (h' : Rd w B A' n' ys) (hB : B ≤ w.heap.size) (hn : n ≤ c) (hc : c ≤ maxLen) (hn' : n' ≤ c') (hc' : c' ≤ maxLen) :
    LsAt (w.alloc (.cells #[.slice A n c, .slice A' n' c'] 22)) (w.heap.size + 1) (some ⟨w.heap.size, 0, none⟩) 2 [xs, ys] :=
  ⟨rfl, fun _ => ⟨w.heap.size, 0, rfl, by omega, fun j x hx => by
    match j, hx with
    | 0, hx =>
      cases hx
      exact ⟨A, n, c, by rw [cell_of_row _ w.heap.size _ _ _ (0, 0) (heap_alloc_new w _)]; rfl, hn, hc, (h.alloc hB _).more (by omega)⟩
    | 1, hx =>
      cases hx
      exact ⟨A', n', c', by rw [cell_of_row _ w.heap.size _ _ _ (0, 0) (heap_alloc_new w _)]; rfl, hn', hc', (h'.alloc hB _).more (by omega)⟩⟩⟩

/-- make([]byte, n): what it makes, under a name. -/
theorem made_long (n : Nat) (hn : n ≤ 1000000000) : ∃ (C : Array Value) (xs : List UInt8), xs.length = n ∧
    (∀ W : World, (Instr.makeSlice 22 (.int .i64 (n : Int)) (.int .i64 (n : Int))).run Try.prog W = .ok (.slice (some ⟨W.heap.size, 0, none⟩) n n) (W.alloc (.cells C 5))) ∧
    C = (xs.map v8).toArray ∧ ∀ i, i < n → xs[i]? = some 0 :=
  ⟨madeCells #[.int .u8 0] n, List.replicate n 0, by simp, fun W => run_make8 n n (Nat.le_refl _) hn W, madeCells8 n, fun i hi => by simp [hi]⟩
theorem Row8.laid (w : World) (xs : List UInt8) (i : Nat) (x : UInt8) : Row8 (w.alloc (.cells ((xs.map v8).toArray.setIfInBounds i (.int .u8 (x.toNat : Int))) 5)) w.heap.size (xs.set i x) := by
  have h : w.alloc (.cells ((xs.map v8).toArray.setIfInBounds i (.int .u8 (x.toNat : Int))) 5) = w.alloc (.cells ((xs.set i x).map v8).toArray 5) := by simp [List.map_set, v8]
  rw [h]
  exact heap_alloc_new w _

theorem uv_max : (uvarint 1048576).length = 3 := by rw [uvarint_big (by omega), uvarint_big (by omega), uvarint_small (by omega)]; rfl

set_option maxRecDepth 100000 in
set_option maxHeartbeats 2000000 in
theorem recordLong_walk (n : Nat) (hn : n < 256) (w : World) :
    Calls Try.prog 4 #[.int .u8 (n : Int)] w fun e W' => e = .returned (.bool true) ∧ Below w.heap.size w W' := by
  obtain ⟨x, rfl⟩ : ∃ x : UInt8, n = x.toNat := ⟨UInt8.ofNat n, by rw [UInt8.toNat_ofNat']; omega⟩
  obtain ⟨C, xs, hxl, hmk, hrow, hx0⟩ := made_long 1048577 (by omega)
  have hmk' : ∀ W : World, (Instr.makeSlice 22 (.int .i64 1048577) (.int .i64 1048577)).run Try.prog W = .ok (.slice (some ⟨W.heap.size, 0, none⟩) 1048577 1048577) (W.alloc (.cells C 5)) := hmk
  have hx1 := hx0 1000 (by omega)
  have HX := Lib.hid hxl
  have hcell : ∀ W : World, (W.alloc (.cells C 5)).cell? ⟨W.heap.size, 1000, none⟩ = some (.int .u8 0) ∧ (W.alloc (.cells C 5)).frozen? ⟨W.heap.size, 1000, none⟩ = false := fun W => by
    have hr : Row8 (W.alloc (.cells C 5)) W.heap.size xs := by rw [hrow]; exact heap_alloc_new W _
    exact ⟨hr.cell hx1, hr.frozen 1000⟩
  have HC := Lib.hid hcell
  have hlaid := fun W => Row8.laid W xs 1000 x
  rw [← hrow] at hlaid
  have HLd := Lib.hid hlaid
  obtain ⟨ys, hys⟩ : ∃ ys, xs.set 1000 x = ys := ⟨_, rfl⟩
  have hyl : ys.length = 1048577 := by rw [← hys, List.length_set]; exact hxl
  rw [hys] at HLd
  have HY := Lib.hid hyl
  have hyt : (ys.take 1048576).length = 1048576 := by rw [List.length_take, hyl]; rfl
  have hrt : (recOf (ys.take 1048576)).length = 1048583 := by rw [recOf_len, hyt, uv_max]
  have HRT := Lib.hid hrt
  clear hmk hrow hx0 hxl hx1 hcell hlaid hys hyl hyt hrt
  go_enter Try.func4, Try.ntmps4
  go_wp2_with fail
  refine (awake_any _).mono ?_
  rintro e w1 ⟨rfl, hb1⟩
  have z1 := hb1.size
  obtain ⟨hc0, hf0⟩ := HC.out w1
  go_wp2_with fail
  have hr2 : Rd (w1.alloc (.cells (C.setIfInBounds 1000 (.int .u8 (x.toNat : Int))) 5)) (w1.heap.size + 1) (some ⟨w1.heap.size, 0, none⟩) 1048577 ys := by
    have h := (HLd.out w1).rd (B := w1.heap.size + 1) (Nat.lt_succ_self _)
    rw [HY.out] at h
    exact h
  have B2 : Below w.heap.size w (w1.alloc (.cells (C.setIfInBounds 1000 (.int .u8 (x.toNat : Int))) 5)) := hb1.alloc z1 _
  have z2 : w1.heap.size + 1 = (w1.alloc (.cells (C.setIfInBounds 1000 (.int .u8 (x.toNat : Int))) 5)).heap.size := by simp
  rw [z2] at hr2
  clear z2 hc0 hf0
  generalize w1.alloc (.cells (C.setIfInBounds 1000 (.int .u8 (x.toNat : Int))) 5) = w2 at hr2 B2 ⊢
  generalize w1.heap.size = g at hr2 ⊢
  have z2 := B2.size
  refine (rput_at _ 1048576 1048577 _ (by omega) (by omega) (by simp [maxLen]) 1048583 HRT.out w2 (hr2.take (by omega))).mono ?_
  rintro e w3 ⟨g3, c3, rfl, _, _, _, _, _, hb3⟩
  have B3 := B2.trans (hb3.mono z2)
  have z3 := B3.size
  have hr3 := (hr2.below hb3).more hb3.size
  go_wp2_with fail
  refine (rput_long _ 1048577 1048577 ys (by omega) (by omega) (by simp [maxLen]) w3 hr3).mono ?_
  rintro e w4 ⟨rfl, hb4⟩
  have B4 := B3.trans (hb4.mono z3)
  have z4 := B4.size
  have hr4 := (hr3.below hb4).more hb4.size
  go_wp2_with fail
  have hr5 := (hr4.alloc (Nat.le_refl _) (.cells #[.int .u8 (x.toNat : Int)] 5)).more (B' := w4.heap.size + 1) (by omega)
  have hL := LsAt.two (Rd.one w4 x) hr5 (by simp) (c := 1) (c' := 1048577) (by omega) (by simp [maxLen]) (by omega) (by simp [maxLen])
  simp only [World.size_alloc] at hL
  refine (row_long (some ⟨w4.heap.size + 1, 0, none⟩) 2 2 [[x], ys] (by omega) 1 (by intro zs hz; simp at hz; rw [hz]; simp) ys rfl (by rw [HY.out]; omega) _ (by simpa using hL)).mono ?_
  rintro e w6 ⟨rfl, rfl⟩
  go_wp2_with fail
  go_ret
  exact ⟨rfl, (B4.alloc z4 _).alloc (by simp; omega) _⟩

theorem recordLong_walks : WalksTrue 4 Try.f4 := by
  intro H enc W base args ds p hval hA
  rw [Try.params4] at hA hval
  obtain ⟨v0, vs0, d0, ds0, p0, q0, hargs, rfl, rfl, h0, r0⟩ := trodAll_cons hA
  obtain ⟨rfl, rfl, rfl⟩ := trodAll_nil r0
  obtain rfl : args = #[v0] := by cases args; simp_all
  obtain ⟨a0, rfl, rfl, rfl, w0⟩ := open_int Try.underlying5 (hval 0 5 v0 rfl rfl) h0
  obtain ⟨g0a, g0b⟩ := range_u8 w0
  obtain ⟨n0, rfl⟩ := Int.eq_ofNat_of_zero_le g0a
  exact recordLong_walk n0 (by omega) W

theorem recordLong_said : Rows.RecordLongSaid :=
  OpenClaim.holds_of_wide 4 Try.f4 rfl rfl rfl rfl rfl rfl rfl ⟨rfl, rfl, rfl, rfl, rfl⟩ rfl rfl rfl rfl rfl (by kernel_rfl) Try.func4 (by kernel_rfl)
    (of_decide_eq_true (by kernel_rfl)) (by unfold Func.isWrapper; first | (rw [if_pos (by decide +kernel)]; kernel_rfl) | (rw [if_neg (by decide +kernel)]; exact ⟨rfl, rfl⟩))
    (fun os started H enc _ => law_lift (s := Rows.recordLongSpec) Try.func4 (by kernel_rfl) rfl rfl (by intro H ds hd; match ds, hd with | [_], _ => exact ⟨rfl, rfl, rfl⟩) (by kernel_rfl) recordLong_walks os started H enc
      (ChangeSpec.witness6 (enc := enc) (C := Try.checked) false ⟨#[], #[.int .u8 0], []⟩ 8 (by kernel_rfl) (by kernel_rfl) (by kernel_rfl) (by kernel_rfl)))

end Go.Proofs.Ytaabfhfiipmhcaa
