/-
  The statements' kinds and laid.
-/
import Derived.Test.YthicbdjambmnpaaSExts
namespace Go.Proofs.Ythicbdjambmnpaa
open Go.RowKit Go.Lib

theorem kOf_cell (n : Nat) : #[Value.int .i64 0, .int .i64 43, .int .i64 60, .int .i64 51, .int .i64 44][n % 5]? = some (.int .i64 (kOf n : Nat)) := by
  have h : n % 5 = 0 ∨ n % 5 = 1 ∨ n % 5 = 2 ∨ n % 5 = 3 ∨ n % 5 = 4 := by omega
  unfold kOf
  rcases h with h | h | h | h | h <;> rw [h] <;> rfl
theorem kinds_any (w : World) : Calls Try.prog 16 #[] w fun e w' => ∃ g, e = .returned (.slice (some ⟨g, 0, none⟩) 5 5) ∧ Below w.heap.size w w' ∧ ∀ n, w'.cell? ⟨g, n % 5, none⟩ = some (.int .i64 (kOf n : Nat)) := by
  have hB := (Below.refl w.heap.size w).alloc (Nat.le_refl _) (.cells #[.int .i64 0, .int .i64 43, .int .i64 60, .int .i64 51, .int .i64 44] 3)
  have hC : ∀ n, (w.alloc (.cells #[.int .i64 0, .int .i64 43, .int .i64 60, .int .i64 51, .int .i64 44] 3)).cell? ⟨w.heap.size, n % 5, none⟩ = some (.int .i64 (kOf n : Nat)) := fun n => by
    rw [cell_of_row _ w.heap.size (n % 5) _ _ (0, 0) (heap_alloc_new w _)]
    exact kOf_cell n
  have HB := Lib.hid hB
  have HC := Lib.hid hC
  clear hB hC
  go_enter Try.func16, Try.ntmps16
  go_wp2_with fail
  go_ret
  exact ⟨_, rfl, HB.out, HC.out⟩

/-- One extension laid. -/
theorem exB_frag {x : Ex} (h : x.k = 44) (f : Nat) : (((List.replicate x.n (0 : UInt8)).set 0 (UInt8.ofNat f)).set 2 (UInt8.ofNat (x.part / 256))).set 3 (UInt8.ofNat (x.part % 256)) = exB x f := by unfold exB; rw [if_pos h]
theorem exB_else {x : Ex} (h : x.k ≠ 44) (f : Nat) : ((List.replicate x.n (0 : UInt8)).set 0 (UInt8.ofNat f)).set 1 (UInt8.ofNat (x.long % 3)) = exB x f := by unfold exB; rw [if_neg h]
theorem laid_drop {l : List Ex} {j : Nat} {x : Ex} (h : l[j]? = some x) (p : Nat) : laidF (l.drop j) p = (x.k, exB x (laidF (l.drop (j + 1)) p).1 ++ (laidF (l.drop (j + 1)) p).2) := by
  obtain ⟨hj, e⟩ := List.getElem?_eq_some_iff.1 h
  rw [List.drop_eq_getElem_cons hj, e]
  rfl

set_option maxRecDepth 100000 in
set_option maxHeartbeats 4000000 in
theorem laid_any (A : Option Addr) (len cap : Nat) (l : List Ex) (p : Nat) (hp : p < 256) (hlen : len ≤ 100) (w : World) (hI : ExtsAt w w.heap.size A len l) :
    Calls Try.prog 28 #[.slice A len cap, .int .i64 (p : Int)] w fun e w' => ∃ v, e = .returned (.tuple #[.int .i64 ((laidF l p).1 : Nat), v]) ∧ Own8 w' w.heap.size v (laidF l p).2 ∧ Below w.heap.size w w' := by
  have HL := Lib.hid hI.size
  have HI := Lib.hid hI
  have HFIT := Lib.hid hI.fit
  have hw0 : IntKind.i64.wrap ((len : Int) - 1) = (len : Int) - 1 := by rw [IntKind.wrap_i64]; omega
  clear hI
  go_enter Try.func28, Try.ntmps28
  go_wp2_with fail
  go_loopg [6, 7, 8, 9, 10, 11] len (fun gh v6 v7 v8 v9 v10 v11 wr => ∃ (z : Int) (lf : Nat × List UInt8), gh ≤ len ∧ z = (gh : Int) - 1 ∧ laidF (l.drop gh) p = lf ∧ v6 = .int .i64 (lf.1 : Nat) ∧ v8 = .int .i64 z ∧ Own8 wr w.heap.size v7 lf.2 ∧ Below w.heap.size w wr)
  case atStart => exact ⟨_, (p, []), Nat.le_refl _, rfl, by rw [List.drop_of_length_le (by rw [HL.out]; exact Nat.le_refl _)]; rfl, rfl, rfl, Own8.nil_ _ _, Below.refl _ _⟩
  case round =>
    clear hw0
    obtain ⟨z, ⟨fi, out⟩, hgl, hz, hlf, rfl, rfl, hown, hB⟩ := hrel
    simp only at hown hlf
    by_cases h0 : gk = 0
    · subst h0
      have hneg : ¬ (0 : Int) ≤ z := by omega
      have hneg2 : decide (0 ≤ z) = false := decide_eq_false hneg
      rw [List.drop_zero] at hlf
      have HLF := Lib.hid hlf
      have HO := Lib.hid hown
      have HBB := Lib.hid hB
      clear hown hB hlf hz
      go_wp2_with fail
      go_ret2
      exact ⟨u7, by rw [HLF.out]; rfl, by rw [HLF.out]; exact HO.out, HBB.out⟩
    obtain ⟨j, rfl⟩ : ∃ j, gk = j + 1 := ⟨gk - 1, by omega⟩
    have hzj : z = (j : Int) := by omega
    subst hzj
    have hpos : (0 : Int) ≤ (j : Int) := by omega
    obtain ⟨x, hx⟩ : ∃ x, l[j]? = some x := ⟨_, List.getElem?_eq_getElem (by rw [HL.out]; omega)⟩
    have hfit := HFIT.out x (List.mem_of_getElem? hx)
    have HDR := Lib.hid (laid_drop hx p)
    rw [hlf] at HDR
    have hfi : fi < 256 := by have := laid_lt (l.drop (j + 1)) hp; rw [hlf] at this; exact this
    obtain ⟨b, off, rfl, hbw⟩ := HI.out.addr (by omega)
    have HC := Lib.hid (fun W (hW : Below wr.heap.size wr W) => (((HI.out.below hB).below (hW.mono hB.size)).cell hx))
    obtain ⟨m7, hm7⟩ : ∃ m7, out.length = m7 := ⟨_, rfl⟩
    have hm7l : m7 ≤ 2400 := by
      have h1 := laid_len (l.drop (j + 1)) p
      have h2 := sumN_le (l.drop (j + 1))
      rw [hlf, hm7] at h1
      rw [List.length_drop, HL.out] at h2
      omega
    obtain ⟨A7, c7, rfl, _, _, hr7⟩ := hown.form hm7
    have HRV := Lib.hid hr7
    have HB7Z := Lib.hid (fun W (h : Below wr.heap.size wr W) => Nat.le_trans hB.size h.size)
    have HM7 := Lib.hid hm7
    have HBB := Lib.hid hB
    have HGL := Lib.hid hgl
    have lj : (j : Int) < (len : Int) := by omega
    have hxn := x.n_ge
    have hxl := x.n_le
    obtain ⟨hk0, hl0, hp0⟩ := hfit
    have hkk := kOf_lt x.kind
    have hxk : x.k = kOf x.kind := rfl
    have XF := fun h => exB_frag (x := x) h fi
    have XE := fun h => exB_else (x := x) h fi
    have n51 : x.k = 51 → x.n = 8 + 4 * (x.long % 3) := fun h => by unfold Ex.n; rw [if_pos h]
    have n44 : x.k = 44 → x.n = 8 := fun h => by unfold Ex.n; rw [if_neg (by omega), if_pos h]
    have nel : x.k ≠ 51 → x.k ≠ 44 → x.n = 8 + 8 * (x.long % 3) := fun h1 h2 => by unfold Ex.n; rw [if_neg h1, if_neg h2]
    rw [hxk] at XF XE n51 n44 nel HDR
    have hxbl := exB_len x fi
    generalize exB x fi = xb at *
    generalize x.kind = x0 at *
    generalize x.long = x1 at *
    generalize x.part = x2 at *
    generalize x.n = nn at *
    obtain ⟨kk, hkke⟩ : ∃ kk, kOf x0 = kk := ⟨_, rfl⟩
    rw [hkke] at XF XE n51 n44 nel HDR hkk
    have m5 : ((x0 : Int)).tmod 5 = (x0 : Int) % 5 := Int.tmod_eq_emod_of_nonneg (by omega)
    have t5 : IntKind.u8.wrap ((x0 : Int) % 5) = (x0 : Int) % 5 := by rw [IntKind.wrap_u8]; omega
    have s5 : IntKind.i64.wrap ((x0 : Int) % 5) = (x0 : Int) % 5 := by rw [IntKind.wrap_i64]; omega
    have l5 : (x0 : Int) % 5 < 5 := by omega
    have p5 : 0 ≤ (x0 : Int) % 5 := by omega
    have tn5 : ((x0 : Int) % 5).toNat = x0 % 5 := by omega
    have m3 : ((x1 : Int)).tmod 3 = (x1 : Int) % 3 := Int.tmod_eq_emod_of_nonneg (by omega)
    have t3 : IntKind.u8.wrap ((x1 : Int) % 3) = (x1 : Int) % 3 := by rw [IntKind.wrap_u8]; omega
    have s3 : IntKind.i64.wrap ((x1 : Int) % 3) = (x1 : Int) % 3 := by rw [IntKind.wrap_i64]; omega
    have uf : IntKind.u8.wrap (fi : Int) = (fi : Int) := by rw [IntKind.wrap_u8]; omega
    have u2 : IntKind.u16.wrap ((x2 : Int) / 256) = (x2 : Int) / 256 := by rw [IntKind.wrap_u16]; omega
    have u3 : IntKind.u8.wrap ((x2 : Int) / 256) = (x2 : Int) / 256 := by rw [IntKind.wrap_u8]; omega
    have u4 : IntKind.u8.wrap (x2 : Int) = (x2 : Int) % 256 := by rw [IntKind.wrap_u8]
    have hj1 : IntKind.i64.wrap ((j : Int) - 1) = (j : Int) - 1 := by rw [IntKind.wrap_i64]; omega
    have HUf := Lib.hid (show (fi : Int) = ((UInt8.ofNat fi).toNat : Int) by rw [u8nat hfi])
    have HU1 := Lib.hid (show (x1 : Int) % 3 = ((UInt8.ofNat (x1 % 3)).toNat : Int) by rw [u8nat (by omega)]; omega)
    have HU2 := Lib.hid (show (x2 : Int) / 256 = ((UInt8.ofNat (x2 / 256)).toNat : Int) by rw [u8nat (by omega)]; omega)
    have HU3 := Lib.hid (show (x2 : Int) % 256 = ((UInt8.ofNat (x2 % 256)).toNat : Int) by rw [u8nat (by omega)]; omega)
    have hn0 : 0 < (nn : Int) := by omega
    have hn1 : 1 < (nn : Int) := by omega
    have hn2 : 2 < (nn : Int) := by omega
    have hn3 : 3 < (nn : Int) := by omega
    have HN0 := Lib.hid (show 0 < nn by omega)
    have HN1 := Lib.hid (show 1 < nn by omega)
    have HN2 := Lib.hid (show 2 < nn by omega)
    have HN3 := Lib.hid (show 3 < nn by omega)
    have HN24 := Lib.hid hxl
    have HXBL := Lib.hid hxbl
    have HM7L := Lib.hid hm7l
    clear hx hfi hlf hown hr7 hm7 hB hgl hxn hxl hk0 hl0 hp0 hkk hxk hbw h0 hxbl hm7l hz
    go_wp2_with fail
    refine wp_region_held_drew (S := fun W => Below wr.heap.size wr W) (by kernel_rfl) (Below.refl _ _).drew (fun hHeld => ?_)
    refine wpAnyH_take (i := 1) (oi := ⟨some 21, _, _, _, _, _⟩) (v := .slice (some ⟨b, off, none⟩) len cap) rfl (by kernel_rfl) (by kernel_rfl) (by kernel_rfl) (fun _ _ _ h => h) (Or.inl ⟨by rfl, fun _ _ => by go_simp⟩) hHeld ?_
    simp only [Act.put, List.setIfInBounds_toArray, List.set_cons_zero, List.set_cons_succ]
    refine wpAnyH_take (i := 2) (oi := ⟨some 22, _, _, _, _, _⟩) (v := .int .i64 (j : Int)) rfl (by kernel_rfl) (by kernel_rfl) (by kernel_rfl) (fun _ _ _ h => h) (Or.inl ⟨by rfl, fun _ _ => by go_simp⟩) hHeld ?_
    simp only [Act.put, List.setIfInBounds_toArray, List.set_cons_zero, List.set_cons_succ]
    refine wpAnyH_take (i := 3) (oi := ⟨some 23, _, _, _, _, _⟩) (v := .pointer (some ⟨b, off + j * 3, none⟩)) rfl (by kernel_rfl) (by kernel_rfl) (by kernel_rfl) (fun _ _ _ h => h) (Or.inl ⟨by rfl, fun _ _ => by go_simp⟩) hHeld ?_
    simp only [Act.put, List.setIfInBounds_toArray, List.set_cons_zero, List.set_cons_succ]
    refine wpAnyH_take (i := 4) (oi := ⟨some 24, _, _, _, _, _⟩) (v := .pointer (some ⟨b, off + j * 3, none⟩)) rfl (by kernel_rfl) (by kernel_rfl) (by kernel_rfl) (fun _ _ _ h => h) (Or.inl ⟨by rfl, fun _ _ => by go_simp⟩) hHeld ?_
    simp only [Act.put, List.setIfInBounds_toArray, List.set_cons_zero, List.set_cons_succ]
    refine wpAnyH_take (i := 5) (oi := ⟨some 25, _, _, _, _, _⟩) (v := .int .u8 (x0 : Int)) rfl (by kernel_rfl) (by kernel_rfl) (by kernel_rfl) (fun _ _ _ h => h) (Or.inl ⟨by rfl, fun W hW => by have hc := (HC.out W hW).1; go_simp⟩) hHeld ?_
    simp only [Act.put, List.setIfInBounds_toArray, List.set_cons_zero, List.set_cons_succ]
    refine wpAnyH_take (i := 6) (oi := ⟨some 26, _, _, _, _, _⟩) (v := .int .u8 ((x0 : Int) % 5)) rfl (by kernel_rfl) (by kernel_rfl) (by kernel_rfl) (fun _ _ _ h => h) (Or.inl ⟨by rfl, fun _ _ => by go_simp⟩) hHeld ?_
    simp only [Act.put, List.setIfInBounds_toArray, List.set_cons_zero, List.set_cons_succ]
    refine wpAnyH_take (i := 7) (oi := ⟨some 27, _, _, _, _, _⟩) (v := .int .i64 ((x0 : Int) % 5)) rfl (by kernel_rfl) (by kernel_rfl) (by kernel_rfl) (fun _ _ _ h => h) (Or.inl ⟨by rfl, fun _ _ => by go_simp⟩) hHeld ?_
    simp only [Act.put, List.setIfInBounds_toArray, List.set_cons_zero, List.set_cons_succ]
    refine wpAnyH_ready (rs := [0]) (by kernel_rfl) (by simp) (AllReadyH.cons (o := ⟨some 20, _, _, _, _, _⟩) rfl (fun K hK => ?_) AllReadyH.nil)
    go_simp
    refine (kinds_any _).mono ?_
    rintro e3 w3 ⟨gk3, rfl, hb3, hck⟩
    have hcx := hck x0
    refine hK.out _ _ (hHeld.trans (hb3.mono hHeld.size)) (fun hHeld => ?_)
    clear hK K hb3 hck
    refine wpAnyH_take (i := 8) (oi := ⟨some 28, _, _, _, _, _⟩) (v := .pointer (some ⟨gk3, x0 % 5, none⟩)) rfl (by kernel_rfl) (by kernel_rfl) (by kernel_rfl) (fun _ _ _ h => h) (Or.inl ⟨by rfl, fun _ _ => by go_simp⟩) hHeld ?_
    simp only [Act.put, List.setIfInBounds_toArray, List.set_cons_zero, List.set_cons_succ]
    refine wpAnyH_ready (rs := [9]) (by kernel_rfl) (by simp) (AllReadyH.cons (o := ⟨some 29, _, _, _, _, _⟩) rfl (fun K hK => ?_) AllReadyH.nil)
    go_simp
    refine hK.out _ _ hHeld (fun hHeld => ?_)
    clear hK K hcx
    refine wpAnyH_take (i := 10) (oi := ⟨some 9, _, _, _, _, _⟩) (v := .int .i64 (kk : Int)) rfl (by kernel_rfl) (by kernel_rfl) (by kernel_rfl) (fun _ _ _ h => h) (Or.inl ⟨by rfl, fun _ _ => by go_simp⟩) hHeld ?_
    simp only [Act.put, List.setIfInBounds_toArray, List.set_cons_zero, List.set_cons_succ]
    refine wpAnyH_done (by kernel_rfl) ?_ _
    have HB3 := Lib.hid hHeld
    obtain ⟨d30, d31, d32⟩ := HC.out w3 HB3.out
    clear hHeld
    by_cases hk51 : kk = 51
    · have HXB := Lib.hid (XE (by omega))
      have hmk := fun W => run_make8 nn nn (Nat.le_refl _) (by omega) W
      have q51 : ((kk : Int) == 51) = true := by simp; omega
      have q44 : ((kk : Int) == 44) = false := by simp; omega
      have q44n : ((kk : Int) != 44) = true := by simp; omega
      have hw1 : IntKind.i64.wrap (4 * ((x1 : Int) % 3)) = 4 * ((x1 : Int) % 3) := by rw [IntKind.wrap_i64]; omega
      have hw2 : IntKind.i64.wrap (8 + 4 * ((x1 : Int) % 3)) = (nn : Int) := by have := n51 hk51; rw [IntKind.wrap_i64]; omega
      have hw3 : IntKind.i64.wrap (8 * ((x1 : Int) % 3)) = 8 * ((x1 : Int) % 3) := by rw [IntKind.wrap_i64]; omega
      have Q51 := Lib.hid q51
      have Q44 := Lib.hid q44
      have Q44n := Lib.hid q44n
      clear XF XE n51 n44 nel q51 q44 q44n hk51
      have q51 := Q51.out
      have q44 := Q44.out
      have q44n := Q44n.out
      have hrow : Row8 (w3.alloc (.cells (madeCells #[.int .u8 0] nn) 5)) w3.heap.size (List.replicate nn 0) := Row8.made w3 nn
      have hb4 := HB3.out.alloc HB3.out.size (.cells (madeCells #[.int .u8 0] nn) 5)
      have hmk3 := hmk w3
      obtain ⟨w4, hw4⟩ : ∃ w4, w3.alloc (.cells (madeCells #[.int .u8 0] nn) 5) = w4 := ⟨_, rfl⟩
      obtain ⟨g, hg⟩ : ∃ g, w3.heap.size = g := ⟨_, rfl⟩
      rw [hw4, hg] at hmk3
      rw [hw4, hg] at hrow
      rw [hw4] at hb4
      have HRW := Lib.hid hrow
      have HB4 := Lib.hid hb4
      have HGW : Hid (wr.heap.size ≤ g) := Lib.hid (by rw [← hg]; exact HB3.out.size)
      clear hmk hrow hb4 hw4 hg
      go_wp2_with (first
        | ((with_reducible show wpList _ _ _ _ _ _); refine wpList_store8 rfl (.tmp 57) (.tmp 56) rfl g 0 (by rfl) (UInt8.ofNat fi) (fi : Int) HUf.out (by rfl) _ HRW.out (by rw [List.length_replicate]; exact HN0.out) ?_; intro w5 hR5 hB5; have HR5 := Lib.hid hR5; have HB5 := Lib.hid (HB4.out.trans (hB5.mono HGW.out)); obtain ⟨d0, d1, d2⟩ := HC.out w5 HB5.out; clear hR5 hB5)
        | ((with_reducible show wpList _ _ _ _ _ _); refine wpList_store8 rfl (.tmp 84) (.tmp 83) rfl g 1 (by rfl) (UInt8.ofNat (x1 % 3)) ((x1 : Int) % 3) HU1.out (by rfl) _ HR5.out (by rw [List.length_set, List.length_replicate]; exact HN1.out) ?_; intro w7 hR7 hB7; have HB7 := Lib.hid (HB5.out.trans (hB7.mono HGW.out)); have HR7 : Hid (Row8 w7 g xb) := Lib.hid (by rw [← HXB.out]; exact hR7); have hrd := HR7.out.rd HR7.out.lt; rw [HXBL.out] at hrd; have HRD := Lib.hid hrd; have HRO := Lib.hid (HRV.out.below HB7.out); have hz7 := HB7Z.out w7 HB7.out; have O7 := Lib.hid (empty8 (base := w.heap.size) w7 hz7); have HZ7 := Lib.hid hz7; clear d0 d1 d2 hR7 hB7 hrd hz7)
        | (at_builtin; refine wpList_append8 (o := ⟨some 87, _, _, _, _, _⟩) rfl _ _ rfl w.heap.size _ [] (by rfl) O7.out _ _ _ _ xb (by rfl) (HRD.out.alloc (Nat.le_refl _) _) (by have := HN24.out; rw [List.length_nil]; omega) (by simp; exact Nat.le_succ_of_le HZ7.out) ?_; intro v8 w8 ho8 hg8 _; rw [List.nil_append] at ho8; have e8 : Below w7.heap.size w7 w8 := ((Below.refl _ w7).alloc (Nat.le_refl _) (.cells #[] 5)).grown hg8 (by simp) (fun g hg => by simp [Value.ownBlock] at hg; omega); have HO8 := Lib.hid ho8; have HB8 := Lib.hid (HB7.out.trans (e8.mono HB7.out.size)); have HE8 := Lib.hid e8.size; have HRO8 := Lib.hid (HRO.out.below (e8.mono HB7.out.size)); clear hg8 e8 ho8)
        | (at_builtin; refine wpList_append8 (o := ⟨some 89, _, _, _, _, _⟩) rfl _ _ rfl w.heap.size _ xb (by rfl) HO8.out _ _ _ _ out (by rfl) HRO8.out (by have := HN24.out; have := HM7L.out; have := HXBL.out; omega) (Nat.le_trans HZ7.out HE8.out) ?_; intro v9 w9 ho9 hg9 hob9))
      have HB9 := Lib.hid ((HBB.out.trans (HB8.out.mono HBB.out.size)).grown hg9 (Nat.le_trans HZ7.out HE8.out) (fun g hg => HO8.out.lt g hg))
      have HO9 := Lib.hid ho9
      clear hg9 hob9 ho9
      go_roundg j
      case measure => omega
      case rel => exact ⟨_, (kk, xb ++ out), Nat.le_of_succ_le HGL.out, rfl, HDR.out, rfl, rfl, HO9.out, HB9.out⟩
    · by_cases hk44 : kk = 44
      · obtain rfl : nn = 8 := n44 hk44
        have HXB := Lib.hid (XF hk44)
        have hmk : ∀ W : World, (Instr.makeSlice 22 (.int .i64 8) (.int .i64 8)).run Try.prog W = .ok (.slice (some ⟨W.heap.size, 0, none⟩) 8 8) (W.alloc (.cells (madeCells #[.int .u8 0] 8) 5)) := fun W => run_make8 8 8 (Nat.le_refl _) (by omega) W
        have q51 : ((kk : Int) == 51) = false := by simp; omega
        have q44 : ((kk : Int) == 44) = true := by simp; omega
        have q44n : ((kk : Int) != 44) = false := by simp; omega
        have Q51 := Lib.hid q51
        have Q44 := Lib.hid q44
        have Q44n := Lib.hid q44n
        clear XF XE n51 n44 nel q51 q44 q44n hk51 hk44
        have q51 := Q51.out
        have q44 := Q44.out
        have q44n := Q44n.out
        have hrow : Row8 (w3.alloc (.cells (madeCells #[.int .u8 0] 8) 5)) w3.heap.size (List.replicate 8 0) := Row8.made w3 8
        have hb4 := HB3.out.alloc HB3.out.size (.cells (madeCells #[.int .u8 0] 8) 5)
        have hmk3 := hmk w3
        obtain ⟨w4, hw4⟩ : ∃ w4, w3.alloc (.cells (madeCells #[.int .u8 0] 8) 5) = w4 := ⟨_, rfl⟩
        obtain ⟨g, hg⟩ : ∃ g, w3.heap.size = g := ⟨_, rfl⟩
        rw [hw4, hg] at hmk3
        rw [hw4, hg] at hrow
        rw [hw4] at hb4
        have HRW := Lib.hid hrow
        have HB4 := Lib.hid hb4
        have HGW : Hid (wr.heap.size ≤ g) := Lib.hid (by rw [← hg]; exact HB3.out.size)
        clear hmk hrow hb4 hw4 hg
        go_wp2_with (first
          | ((with_reducible show wpList _ _ _ _ _ _); refine wpList_store8 rfl (.tmp 57) (.tmp 56) rfl g 0 (by rfl) (UInt8.ofNat fi) (fi : Int) HUf.out (by rfl) _ HRW.out (by rw [List.length_replicate]; exact HN0.out) ?_; intro w5 hR5 hB5; have HR5 := Lib.hid hR5; have HB5 := Lib.hid (HB4.out.trans (hB5.mono HGW.out)); obtain ⟨d0, d1, d2⟩ := HC.out w5 HB5.out; clear hR5 hB5)
          | ((with_reducible show wpList _ _ _ _ _ _); refine wpList_store8 rfl (.tmp 68) (.tmp 67) rfl g 2 (by rfl) (UInt8.ofNat (x2 / 256)) ((x2 : Int) / 256) HU2.out (by rfl) _ HR5.out (by rw [List.length_set, List.length_replicate]; exact HN2.out) ?_; intro w6 hR6 hB6; have HR6 := Lib.hid hR6; have HB6 := Lib.hid (HB5.out.trans (hB6.mono HGW.out)); clear d0 d1 d2; obtain ⟨d0, d1, d2⟩ := HC.out w6 HB6.out; clear hR6 hB6)
          | ((with_reducible show wpList _ _ _ _ _ _); refine wpList_store8 rfl (.tmp 76) (.tmp 75) rfl g 3 (by rfl) (UInt8.ofNat (x2 % 256)) ((x2 : Int) % 256) HU3.out (by rfl) _ HR6.out (by rw [List.length_set, List.length_set, List.length_replicate]; exact HN3.out) ?_; intro w7 hR7 hB7; have HB7 := Lib.hid (HB6.out.trans (hB7.mono HGW.out)); have HR7 : Hid (Row8 w7 g xb) := Lib.hid (by rw [← HXB.out]; exact hR7); have hrd := HR7.out.rd HR7.out.lt; rw [HXBL.out] at hrd; have HRD := Lib.hid hrd; have HRO := Lib.hid (HRV.out.below HB7.out); have hz7 := HB7Z.out w7 HB7.out; have O7 := Lib.hid (empty8 (base := w.heap.size) w7 hz7); have HZ7 := Lib.hid hz7; clear d0 d1 d2 hR7 hB7 hrd hz7)
          | (at_builtin; refine wpList_append8 (o := ⟨some 87, _, _, _, _, _⟩) rfl _ _ rfl w.heap.size _ [] (by rfl) O7.out _ _ _ _ xb (by rfl) (HRD.out.alloc (Nat.le_refl _) _) (by have := HN24.out; rw [List.length_nil]; omega) (by simp; exact Nat.le_succ_of_le HZ7.out) ?_; intro v8 w8 ho8 hg8 _; rw [List.nil_append] at ho8; have e8 : Below w7.heap.size w7 w8 := ((Below.refl _ w7).alloc (Nat.le_refl _) (.cells #[] 5)).grown hg8 (by simp) (fun g hg => by simp [Value.ownBlock] at hg; omega); have HO8 := Lib.hid ho8; have HB8 := Lib.hid (HB7.out.trans (e8.mono HB7.out.size)); have HE8 := Lib.hid e8.size; have HRO8 := Lib.hid (HRO.out.below (e8.mono HB7.out.size)); clear hg8 e8 ho8)
          | (at_builtin; refine wpList_append8 (o := ⟨some 89, _, _, _, _, _⟩) rfl _ _ rfl w.heap.size _ xb (by rfl) HO8.out _ _ _ _ out (by rfl) HRO8.out (by have := HN24.out; have := HM7L.out; have := HXBL.out; omega) (Nat.le_trans HZ7.out HE8.out) ?_; intro v9 w9 ho9 hg9 hob9))
        have HB9 := Lib.hid ((HBB.out.trans (HB8.out.mono HBB.out.size)).grown hg9 (Nat.le_trans HZ7.out HE8.out) (fun g hg => HO8.out.lt g hg))
        have HO9 := Lib.hid ho9
        clear hg9 hob9 ho9
        go_roundg j
        case measure => omega
        case rel => exact ⟨_, (kk, xb ++ out), Nat.le_of_succ_le HGL.out, rfl, HDR.out, rfl, rfl, HO9.out, HB9.out⟩
      · have HXB := Lib.hid (XE hk44)
        have hmk := fun W => run_make8 nn nn (Nat.le_refl _) (by omega) W
        have q51 : ((kk : Int) == 51) = false := by simp; omega
        have q44 : ((kk : Int) == 44) = false := by simp; omega
        have q44n : ((kk : Int) != 44) = true := by simp; omega
        have hw1 : IntKind.i64.wrap (8 * ((x1 : Int) % 3)) = 8 * ((x1 : Int) % 3) := by rw [IntKind.wrap_i64]; omega
        have hw2 : IntKind.i64.wrap (8 + 8 * ((x1 : Int) % 3)) = (nn : Int) := by have := nel hk51 hk44; rw [IntKind.wrap_i64]; omega
        have Q51 := Lib.hid q51
        have Q44 := Lib.hid q44
        have Q44n := Lib.hid q44n
        clear XF XE n51 n44 nel q51 q44 q44n hk51 hk44
        have q51 := Q51.out
        have q44 := Q44.out
        have q44n := Q44n.out
        have hrow : Row8 (w3.alloc (.cells (madeCells #[.int .u8 0] nn) 5)) w3.heap.size (List.replicate nn 0) := Row8.made w3 nn
        have hb4 := HB3.out.alloc HB3.out.size (.cells (madeCells #[.int .u8 0] nn) 5)
        have hmk3 := hmk w3
        obtain ⟨w4, hw4⟩ : ∃ w4, w3.alloc (.cells (madeCells #[.int .u8 0] nn) 5) = w4 := ⟨_, rfl⟩
        obtain ⟨g, hg⟩ : ∃ g, w3.heap.size = g := ⟨_, rfl⟩
        rw [hw4, hg] at hmk3
        rw [hw4, hg] at hrow
        rw [hw4] at hb4
        have HRW := Lib.hid hrow
        have HB4 := Lib.hid hb4
        have HGW : Hid (wr.heap.size ≤ g) := Lib.hid (by rw [← hg]; exact HB3.out.size)
        clear hmk hrow hb4 hw4 hg
        go_wp2_with (first
          | ((with_reducible show wpList _ _ _ _ _ _); refine wpList_store8 rfl (.tmp 57) (.tmp 56) rfl g 0 (by rfl) (UInt8.ofNat fi) (fi : Int) HUf.out (by rfl) _ HRW.out (by rw [List.length_replicate]; exact HN0.out) ?_; intro w5 hR5 hB5; have HR5 := Lib.hid hR5; have HB5 := Lib.hid (HB4.out.trans (hB5.mono HGW.out)); obtain ⟨d0, d1, d2⟩ := HC.out w5 HB5.out; clear hR5 hB5)
          | ((with_reducible show wpList _ _ _ _ _ _); refine wpList_store8 rfl (.tmp 84) (.tmp 83) rfl g 1 (by rfl) (UInt8.ofNat (x1 % 3)) ((x1 : Int) % 3) HU1.out (by rfl) _ HR5.out (by rw [List.length_set, List.length_replicate]; exact HN1.out) ?_; intro w7 hR7 hB7; have HB7 := Lib.hid (HB5.out.trans (hB7.mono HGW.out)); have HR7 : Hid (Row8 w7 g xb) := Lib.hid (by rw [← HXB.out]; exact hR7); have hrd := HR7.out.rd HR7.out.lt; rw [HXBL.out] at hrd; have HRD := Lib.hid hrd; have HRO := Lib.hid (HRV.out.below HB7.out); have hz7 := HB7Z.out w7 HB7.out; have O7 := Lib.hid (empty8 (base := w.heap.size) w7 hz7); have HZ7 := Lib.hid hz7; clear d0 d1 d2 hR7 hB7 hrd hz7)
          | (at_builtin; refine wpList_append8 (o := ⟨some 87, _, _, _, _, _⟩) rfl _ _ rfl w.heap.size _ [] (by rfl) O7.out _ _ _ _ xb (by rfl) (HRD.out.alloc (Nat.le_refl _) _) (by have := HN24.out; rw [List.length_nil]; omega) (by simp; exact Nat.le_succ_of_le HZ7.out) ?_; intro v8 w8 ho8 hg8 _; rw [List.nil_append] at ho8; have e8 : Below w7.heap.size w7 w8 := ((Below.refl _ w7).alloc (Nat.le_refl _) (.cells #[] 5)).grown hg8 (by simp) (fun g hg => by simp [Value.ownBlock] at hg; omega); have HO8 := Lib.hid ho8; have HB8 := Lib.hid (HB7.out.trans (e8.mono HB7.out.size)); have HE8 := Lib.hid e8.size; have HRO8 := Lib.hid (HRO.out.below (e8.mono HB7.out.size)); clear hg8 e8 ho8)
          | (at_builtin; refine wpList_append8 (o := ⟨some 89, _, _, _, _, _⟩) rfl _ _ rfl w.heap.size _ xb (by rfl) HO8.out _ _ _ _ out (by rfl) HRO8.out (by have := HN24.out; have := HM7L.out; have := HXBL.out; omega) (Nat.le_trans HZ7.out HE8.out) ?_; intro v9 w9 ho9 hg9 hob9))
        have HB9 := Lib.hid ((HBB.out.trans (HB8.out.mono HBB.out.size)).grown hg9 (Nat.le_trans HZ7.out HE8.out) (fun g hg => HO8.out.lt g hg))
        have HO9 := Lib.hid ho9
        clear hg9 hob9 ho9
        go_roundg j
        case measure => omega
        case rel => exact ⟨_, (kk, xb ++ out), Nat.le_of_succ_le HGL.out, rfl, HDR.out, rfl, rfl, HO9.out, HB9.out⟩
end Go.Proofs.Ythicbdjambmnpaa
