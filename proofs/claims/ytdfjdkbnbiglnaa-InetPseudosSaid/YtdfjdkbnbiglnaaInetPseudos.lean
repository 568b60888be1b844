/-
  PROVED HERE: 'InetPseudosSaid': whatever src, dst, proto and length are, the Go function InetPseudos of package wayleavelaw06 returns true, and its arguments read behind the call as they read before. No condition.
-/
import Derived.Test.YtdfjdkbnbiglnaaIAddr
import Derived.Test.YtdfjdkbnbiglnaaIRPseudo
import Derived.Test.YtdfjdkbnbiglnaaIAwake
import Derived.Deep.MidRow
namespace Go.Proofs.Ytdfjdkbnbiglnaa
open Go.RowKit Go.Lib Go.ChangeShapes Go.WideShapes Go.ChangeAt

theorem Own8.frozen {w : World} {base g n c : Nat} {xs : List UInt8} (h : Own8 w base (.slice (some ⟨g, 0, none⟩) n c) xs) (j : Nat) : w.frozen? ⟨g, j, none⟩ = false := by
  rcases h.2 with ⟨e, _⟩ | ⟨g', cap', cur, e, _, hg, _⟩
  · cases e
  · cases e
    exact frozen_of_row w g j cur _ hg
theorem xor8 (x y : UInt8) : bits .xor .u8 (x.toNat : Int) (y.toNat : Int) = ((x ^^^ y).toNat : Int) := by
  rw [u8_xor_nat _ _ x.toNat_lt y.toNat_lt, UInt8.toNat_xor]
/-- The cells of block g, from its head on, are just the bytes cur, and may be written. -/
def Held (w : World) (g : Nat) (cur : List UInt8) : Prop := ∀ j y, cur[j]? = some y → w.cell? ⟨g, j, none⟩ = some (v8 y) ∧ w.frozen? ⟨g, j, none⟩ = false
theorem Held.set {w : World} {g : Nat} {cur : List UInt8} (h : Held w g cur) {k : Nat} {x : UInt8} (hx : cur[k]? = some x) (y : UInt8) : Held (w.setCell ⟨g, k, none⟩ (.int .u8 (y.toNat : Int))) g (cur.set k y) := by
  intro j z hz
  rw [World.frozen?_setCell]
  have hk : k < cur.length := (List.getElem?_eq_some_iff.1 hx).1
  rw [List.getElem?_set] at hz
  by_cases e : k = j
  · subst e
    simp [hk] at hz
    subst hz
    exact ⟨World.cell?_setCell_same _ _ _ (h k x hx).1, (h k x hx).2⟩
  · rw [if_neg e] at hz
    rw [World.cell?_setCell_other _ _ _ _ (by intro e'; cases e'; exact e rfl)]
    exact h j z hz
theorem Held.rd {w : World} {g : Nat} {cur : List UInt8} (h : Held w g cur) {B n : Nat} (hg : g < B) (hn : cur.length = n) : Rd w B (some ⟨g, 0, none⟩) n cur :=
  ⟨hn, fun _ => ⟨g, 0, rfl, hg, fun j x hx => by rw [Nat.zero_add]; exact (h j x hx).1⟩⟩

theorem own_form {w : World} {base : Nat} {v : Value} {xs : List UInt8} {n : Nat} (h : Own8 w base v ([] ++ xs)) (hn : xs.length = n) (h0 : 0 < n) :
    ∃ g c, v = .slice (some ⟨g, 0, none⟩) n c ∧ n ≤ c ∧ c ≤ maxLen ∧ base ≤ g ∧ g < w.heap.size ∧ Held w g xs := by
  rw [List.nil_append] at h
  subst hn
  obtain ⟨A2, c2, rfl, hmc2, hcm2, hr2, hgg⟩ := h.rd
  obtain ⟨g, rfl, hbg⟩ := hgg h0
  obtain ⟨b, off, e, hglt⟩ := hr2.addr h0
  cases e
  refine ⟨g, c2, rfl, hmc2, hcm2, hbg, hglt, fun j y hy => ?_⟩
  obtain ⟨b, off, e, _, hc⟩ := hr2.2 h0
  cases e
  have := hc j y hy
  rw [Nat.zero_add] at this
  exact ⟨this, h.frozen j⟩

/-- The cells of an address, as a list. -/
def addrL (s : Bool) (bs : List UInt8) : List Value := .bool s :: bs.map v8
theorem addrC_eq (s : Bool) (bs : List UInt8) : addrC s bs = (addrL s bs).toArray := rfl
theorem addrL_len (s : Bool) (bs : List UInt8) (h : bs.length = 16) : (addrL s bs).length = 17 := by simp [addrL, h]
theorem size_addr (s : Bool) (bs : List UInt8) (h : bs.length = 16) : (Try.prog.info? 40).map (·.size) = some (addrL s bs).length := by
  rw [addrL_len s bs h]; kernel_rfl
theorem addr_range (w : World) (s : Bool) (bs : List UInt8) : (w.alloc (.cells (addrC s bs) 40)).rangeAt w.heap.size 0 (addrL s bs) := fun j v hv => by
  rw [Nat.zero_add, cell_of_row _ w.heap.size j _ _ (0, 0) (heap_alloc_new w _), addrC_eq]
  simpa using hv
theorem range_keep {w w' : World} {B g : Nat} {cs : List Value} (h : w.rangeAt g 0 cs) (hg : g < B) (hb : Below B w w') : w'.rangeAt g 0 cs := fun j v hv => (hb.cell (p := ⟨g, 0 + j, none⟩) hg).trans (h j v hv)
theorem pseudo_len (s : Bool) (a b : List UInt8) (ha : a.length = 16) (hb : b.length = 16) (p l : Nat) : 0 < (pseudoOf s a b p l).length ∧ (pseudoOf s a b p l).length ≤ 40 := by
  cases s <;> simp [pseudoOf, ha, hb]
theorem pseudo_any (s : Bool) (a b : List UInt8) (ha : a.length = 16) (hb : b.length = 16) (p l : Nat) (hp : p < 256) (hl : l < 65536) (X : List UInt8) (hX : pseudoOf s a b p l = X) (w : World) :
    Calls Try.prog 17 #[.agg (addrL s a).toArray, .agg (addrL s b).toArray, .int .i64 (p : Int), .int .i64 (l : Int)] w fun e W' => ∃ v, e = .returned v ∧ Own8 W' w.heap.size v X ∧ Below w.heap.size w W' := by
  subst hX
  cases s
  · exact pseudo_four a b ha hb p l hp hl w
  · exact pseudo_six a b ha hb p l hp hl w
theorem rpseudo_any (s : Bool) (a b : List UInt8) (ha : a.length = 16) (hb : b.length = 16) (p l : Nat) (hp : p < 256) (hl : l < 65536) (X : List UInt8) (hX : pseudoOf s a b p l = X) (w : World) :
    Calls Try.prog 19 #[.agg (addrL s a).toArray, .agg (addrL s b).toArray, .int .i64 (p : Int), .int .i64 (l : Int)] w fun e W' => ∃ v, e = .returned v ∧ Own8 W' w.heap.size v X ∧ Below w.heap.size w W' := by
  subst hX
  cases s
  · exact rpseudo_four a b ha hb p l hp hl w
  · exact rpseudo_six a b ha hb p l hp hl w

set_option maxRecDepth 100000 in
set_option maxHeartbeats 4000000 in
theorem inetPseudos_walk (s : Bool) (a : List UInt8) (ha : a.length = 16) (t : Bool) (b : List UInt8) (hb : b.length = 16) (p : Nat) (hp : p < 256) (l : Nat) (hl : l < 65536) (w : World) :
    Calls Try.prog 8 #[.agg (addrC s a), .agg (addrC t b), .int .u8 (p : Int), .int .u16 (l : Int)] w fun e W' => e = .returned (.bool true) ∧ Below w.heap.size w W' := by
  have k0 := (addr_range w s a)
  have k0' : ((w.alloc (.cells (addrC s a) 40)).alloc (.cells (addrC t b) 40)).rangeAt w.heap.size 0 (addrL s a) := range_keep k0 (Nat.lt_succ_self _) (by have := (Below.refl (w.heap.size + 1) (w.alloc (.cells (addrC s a) 40))).alloc (by simp) (.cells (addrC t b) 40); exact this)
  have k1 := addr_range (w.alloc (.cells (addrC s a) 40)) t b
  simp only [World.size_alloc] at k1
  have hbw := ((Below.refl w.heap.size w).alloc (Nat.le_refl _) (.cells (addrC s a) 40)).alloc (by simp) (.cells (addrC t b) 40)
  have hsz : ((w.alloc (.cells (addrC s a) 40)).alloc (.cells (addrC t b) 40)).heap.size = w.heap.size + 1 + 1 := by simp
  obtain ⟨C0, hC0⟩ : ∃ C, addrC s a = C := ⟨_, rfl⟩
  obtain ⟨C1, hC1⟩ : ∃ C, addrC t b = C := ⟨_, rfl⟩
  rw [hC0] at k0' k1 hbw hsz ⊢
  rw [hC1] at k0' k1 hbw hsz ⊢
  clear hC0 hC1 k0
  have c0 := k0' 0 (.bool s) rfl
  have c1 := k1 0 (.bool t) rfl
  rw [Nat.add_zero] at c0 c1
  go_enter Try.func8, Try.ntmps8
  go_wp2_with fail
  generalize (w.alloc (.cells C0 40)).alloc (.cells C1 40) = w2 at hbw hsz k0' k1 c0 c1 ⊢
  have HZ := Lib.hid hsz
  clear hsz
  refine (awake_any _).mono ?_
  rintro e w3 ⟨rfl, hb3⟩
  have z3 := hb3.size
  have g0 : w.heap.size < w2.heap.size := by rw [HZ.out]; omega
  have g1 : w.heap.size + 1 < w2.heap.size := by rw [HZ.out]; omega
  have B3 := hbw.trans (hb3.mono (by omega))
  have j0 := range_keep k0' g0 hb3
  have j1 := range_keep k1 g1 hb3
  have d0 := (hb3.cell (p := ⟨w.heap.size, 0, none⟩) g0).trans c0
  have d1 := (hb3.cell (p := ⟨w.heap.size + 1, 0, none⟩) g1).trans c1
  clear k0' k1 c0 c1
  by_cases hst : s = t
  · subst hst
    have e1 : (s != s) = false := by simp
    obtain ⟨X, hX⟩ : ∃ X, pseudoOf s a b p l = X := ⟨_, rfl⟩
    have hXl := pseudo_len s a b ha hb p l
    rw [hX] at hXl
    obtain ⟨n, hn⟩ : ∃ n, X.length = n := ⟨_, rfl⟩
    rw [hn] at hXl
    obtain ⟨hn0, hn40⟩ := hXl
    have HP := Lib.hid (pseudo_any s a b ha hb p l hp hl X hX)
    have hwp : IntKind.i64.wrap (p : Int) = (p : Int) := by rw [IntKind.wrap_i64]; omega
    have hwl : IntKind.i64.wrap (l : Int) = (l : Int) := by rw [IntKind.wrap_i64]; omega
    have HR := Lib.hid (rpseudo_any s a b ha hb p l hp hl X hX)
    have HN := Lib.hid hn
    have i0 := size_addr s a ha
    have i1 := size_addr s b hb
    obtain ⟨L0, hL0⟩ : ∃ L, addrL s a = L := ⟨_, rfl⟩
    obtain ⟨L1, hL1⟩ : ∃ L, addrL s b = L := ⟨_, rfl⟩
    rw [hL0] at j0 i0 HP HR
    rw [hL1] at j1 i1 HP HR
    clear hL0 hL1 hX hn
    have J0 := Lib.hid j0
    have J1 := Lib.hid j1
    have I0 := Lib.hid i0
    have I1 := Lib.hid i1
    clear j0 j1 i0 i1
    go_wp2_with (first
      | ((with_reducible show wpList _ _ _ _ _ _); refine wpList_load_mid rfl 40 _ rfl w.heap.size 0 (by rfl) L0 _ J0.out Try.underlying40 rfl I0.out ?_)
      | ((with_reducible show wpList _ _ _ _ _ _); refine wpList_load_mid rfl 40 _ rfl (w.heap.size + 1) 0 (by rfl) L1 _ J1.out Try.underlying40 rfl I1.out ?_))
    refine (HP.out _).mono ?_
    rintro e w4 ⟨v4, rfl, ho4, hb4⟩
    have z4 := hb4.size
    obtain ⟨g, c, rfl, hnc, hcm, hbg, hglt, hheld⟩ := own_form (xs := X) (by simpa using ho4) HN.out hn0
    have hr4 := hheld.rd hglt HN.out
    have K0 := Lib.hid (range_keep J0.out (by omega) hb4)
    have K1 := Lib.hid (range_keep J1.out (by omega) hb4)
    clear hheld
    go_wp2_with (first
      | ((with_reducible show wpList _ _ _ _ _ _); refine wpList_load_mid rfl 40 _ rfl w.heap.size 0 (by rfl) L0 _ K0.out Try.underlying40 rfl I0.out ?_)
      | ((with_reducible show wpList _ _ _ _ _ _); refine wpList_load_mid rfl 40 _ rfl (w.heap.size + 1) 0 (by rfl) L1 _ K1.out Try.underlying40 rfl I1.out ?_))
    refine (HR.out _).mono ?_
    rintro e w5 ⟨v5, rfl, ho5, hb5⟩
    have z5 := hb5.size
    obtain ⟨A5, m5, c5, rfl, hm5, _, _, hr5⟩ := ho5.sl
    clear hm5
    go_wp2_with fail
    refine (same_any w5 c c5 (hr4.below hb5) hr5).mono ?_
    rintro e w' ⟨rfl, rfl⟩
    have ho4' := ho4.below hb5
    have hheld : Held w5 g X := by
      obtain ⟨g', c', e, _, _, _, _, hh⟩ := own_form (xs := X) (by simpa using ho4') HN.out hn0
      cases e
      exact hh
    have B5 : Below w3.heap.size w3 w5 := hb4.trans (hb5.mono z4)
    clear ho4 ho4' ho5 hr4 hr5 hb4 hb5 K0 K1
    go_wp2_with fail
    go_loopw [10] (fun i wr => ∃ (k : Nat) (cur : List UInt8), k ≤ n ∧ i = .int .i64 (k : Int) ∧ cur.length = n ∧ Held wr g cur ∧ Below w3.heap.size w3 wr) (fun i _ => n - (intOf i).toNat)
    case atStart => exact ⟨0, X, by omega, rfl, HN.out, hheld, B5⟩
    case round =>
      clear hheld B5
      obtain ⟨k, cur, hk, rfl, hcur, hheld, B6⟩ := hrel
      by_cases hlt : k < n
      · have hlt' : (k : Int) < (n : Int) := by omega
        obtain ⟨x, hx⟩ : ∃ x, cur[k]? = some x := ⟨_, List.getElem?_eq_getElem (by omega)⟩
        obtain ⟨hc, hf⟩ := hheld k x hx
        unfold v8 at hc
        have hxor : bits .xor .u8 (x.toNat : Int) 255 = ((x ^^^ 255).toNat : Int) := xor8 x 255
        have hset := hheld.set hx (x ^^^ 255)
        have hsl : (cur.set k (x ^^^ 255)).length = n := by rw [List.length_set]; exact hcur
        have HS := Lib.hid hset
        have HSL := Lib.hid hsl
        have hB := B6.setCell (p := ⟨g, k, none⟩) hbg (.int .u8 ((x ^^^ 255).toNat : Int))
        have HB := Lib.hid hB
        clear hset hsl hx hB hcur hheld
        go_wp2_with fail
        go_roundw
        case rel => exact ⟨k + 1, _, by omega, by go_num, HSL.out, HS.out, HB.out⟩
        case measure => simp [intOf]; omega
      · have hlt' : ¬ (k : Int) < (n : Int) := by omega
        have j0 := range_keep J0.out (by omega) B6
        have j1 := range_keep J1.out (by omega) B6
        clear hheld hcur hlt
        go_wp2_with fail
        have HJ0 := Lib.hid j0
        have HJ1 := Lib.hid j1
        refine wp_region_held_drew (S := fun W => W.rangeAt w.heap.size 0 L0 ∧ W.rangeAt (w.heap.size + 1) 0 L1) (by kernel_rfl) ⟨j0, j1⟩ (fun hHeld => ?_)
        clear j0 j1
        refine wpAnyH_take (i := 0) (oi := ⟨some 52, _, _, _, _, _⟩) (v := .agg L0.toArray) rfl (by kernel_rfl) (by kernel_rfl) (by kernel_rfl) (fun _ _ _ h => h) (yieldsIf_load_mid (by rfl) 40 _ rfl (w.heap.size) 0 rfl L0 _ (fun _ h => h.1) Try.underlying40 rfl I0.out) hHeld ?_
        simp only [Act.put, List.setIfInBounds_toArray, List.set_cons_zero, List.set_cons_succ]
        refine wpAnyH_take (i := 1) (oi := ⟨some 53, _, _, _, _, _⟩) (v := .agg L1.toArray) rfl (by kernel_rfl) (by kernel_rfl) (by kernel_rfl) (fun _ _ _ h => h) (yieldsIf_load_mid (by rfl) 40 _ rfl (w.heap.size + 1) 0 rfl L1 _ (fun _ h => h.2) Try.underlying40 rfl I1.out) hHeld ?_
        simp only [Act.put, List.setIfInBounds_toArray, List.set_cons_zero, List.set_cons_succ]
        refine wpAnyH_take (i := 2) (oi := ⟨some 54, _, _, _, _, _⟩) (v := .int .u8 (p : Int)) rfl (by kernel_rfl) (by kernel_rfl) (by kernel_rfl) (fun _ _ _ h => h) (Or.inl ⟨by rfl, fun _ _ => by go_simp⟩) hHeld ?_
        simp only [Act.put, List.setIfInBounds_toArray, List.set_cons_zero, List.set_cons_succ]
        refine wpAnyH_take (i := 3) (oi := ⟨some 55, _, _, _, _, _⟩) (v := .int .i64 (p : Int)) rfl (by kernel_rfl) (by kernel_rfl) (by kernel_rfl) (fun _ _ _ h => h) (Or.inl ⟨by rfl, fun _ _ => by go_simp⟩) hHeld ?_
        simp only [Act.put, List.setIfInBounds_toArray, List.set_cons_zero, List.set_cons_succ]
        refine wpAnyH_take (i := 4) (oi := ⟨some 56, _, _, _, _, _⟩) (v := .int .u16 (l : Int)) rfl (by kernel_rfl) (by kernel_rfl) (by kernel_rfl) (fun _ _ _ h => h) (Or.inl ⟨by rfl, fun _ _ => by go_simp⟩) hHeld ?_
        simp only [Act.put, List.setIfInBounds_toArray, List.set_cons_zero, List.set_cons_succ]
        refine wpAnyH_take (i := 5) (oi := ⟨some 57, _, _, _, _, _⟩) (v := .int .i64 (l : Int)) rfl (by kernel_rfl) (by kernel_rfl) (by kernel_rfl) (fun _ _ _ h => h) (Or.inl ⟨by rfl, fun _ _ => by go_simp⟩) hHeld ?_
        simp only [Act.put, List.setIfInBounds_toArray, List.set_cons_zero, List.set_cons_succ]
        refine wpAnyH_take (i := 7) (oi := ⟨some 59, _, _, _, _, _⟩) (v := .agg L0.toArray) rfl (by kernel_rfl) (by kernel_rfl) (by kernel_rfl) (fun _ _ _ h => h) (yieldsIf_load_mid (by rfl) 40 _ rfl (w.heap.size) 0 rfl L0 _ (fun _ h => h.1) Try.underlying40 rfl I0.out) hHeld ?_
        simp only [Act.put, List.setIfInBounds_toArray, List.set_cons_zero, List.set_cons_succ]
        refine wpAnyH_take (i := 8) (oi := ⟨some 60, _, _, _, _, _⟩) (v := .agg L1.toArray) rfl (by kernel_rfl) (by kernel_rfl) (by kernel_rfl) (fun _ _ _ h => h) (yieldsIf_load_mid (by rfl) 40 _ rfl (w.heap.size + 1) 0 rfl L1 _ (fun _ h => h.2) Try.underlying40 rfl I1.out) hHeld ?_
        simp only [Act.put, List.setIfInBounds_toArray, List.set_cons_zero, List.set_cons_succ]
        refine wpAnyH_take (i := 9) (oi := ⟨some 61, _, _, _, _, _⟩) (v := .int .u8 (p : Int)) rfl (by kernel_rfl) (by kernel_rfl) (by kernel_rfl) (fun _ _ _ h => h) (Or.inl ⟨by rfl, fun _ _ => by go_simp⟩) hHeld ?_
        simp only [Act.put, List.setIfInBounds_toArray, List.set_cons_zero, List.set_cons_succ]
        refine wpAnyH_take (i := 10) (oi := ⟨some 62, _, _, _, _, _⟩) (v := .int .i64 (p : Int)) rfl (by kernel_rfl) (by kernel_rfl) (by kernel_rfl) (fun _ _ _ h => h) (Or.inl ⟨by rfl, fun _ _ => by go_simp⟩) hHeld ?_
        simp only [Act.put, List.setIfInBounds_toArray, List.set_cons_zero, List.set_cons_succ]
        refine wpAnyH_take (i := 11) (oi := ⟨some 63, _, _, _, _, _⟩) (v := .int .u16 (l : Int)) rfl (by kernel_rfl) (by kernel_rfl) (by kernel_rfl) (fun _ _ _ h => h) (Or.inl ⟨by rfl, fun _ _ => by go_simp⟩) hHeld ?_
        simp only [Act.put, List.setIfInBounds_toArray, List.set_cons_zero, List.set_cons_succ]
        refine wpAnyH_take (i := 12) (oi := ⟨some 64, _, _, _, _, _⟩) (v := .int .i64 (l : Int)) rfl (by kernel_rfl) (by kernel_rfl) (by kernel_rfl) (fun _ _ _ h => h) (Or.inl ⟨by rfl, fun _ _ => by go_simp⟩) hHeld ?_
        simp only [Act.put, List.setIfInBounds_toArray, List.set_cons_zero, List.set_cons_succ]
        refine wpAnyH_ready (rs := [6]) (by kernel_rfl) (by simp) (AllReadyH.cons (o := ⟨some 58, _, _, _, _, _⟩) rfl (fun K hK => ?_) AllReadyH.nil)
        go_simp
        refine (HP.out _).mono ?_
        rintro e w7 ⟨v7, rfl, ho7, hb7⟩
        obtain ⟨A7, m7, c7, rfl, hm7, _, _, hr7⟩ := ho7.sl
        clear hm7
        have B7 : Below wr.heap.size wr w7 := (Below.refl _ wr).drew.trans hb7
        have z6 := B6.size
        have z7 := B7.size
        refine hK.out _ _ ⟨range_keep HJ0.out (by omega) B7, range_keep HJ1.out (by omega) B7⟩ (fun hHeld => ?_)
        clear hK K
        refine wpAnyH_ready (rs := [13]) (by kernel_rfl) (by simp) (AllReadyH.cons (o := ⟨some 65, _, _, _, _, _⟩) rfl (fun K hK => ?_) AllReadyH.nil)
        go_simp
        refine (HR.out _).mono ?_
        rintro e w8 ⟨v8, rfl, ho8, hb8⟩
        obtain ⟨A8, m8, c8, rfl, hm8, _, _, hr8⟩ := ho8.sl
        clear hm8
        have B8 : Below wr.heap.size wr w8 := B7.trans (hb8.mono z7)
        refine hK.out _ _ ⟨range_keep HJ0.out (by omega) B8, range_keep HJ1.out (by omega) B8⟩ (fun hHeld => ?_)
        clear hK K
        refine wpAnyH_ready (rs := [14]) (by kernel_rfl) (by simp) (AllReadyH.cons (o := ⟨some 66, _, _, _, _, _⟩) rfl (fun K hK => ?_) AllReadyH.nil)
        go_simp
        refine (same_any w8 c7 c8 (hr7.below hb8) hr8).mono ?_
        rintro e w' ⟨rfl, rfl⟩
        refine hK.out _ _ hHeld (fun hHeld => ?_)
        clear hK K
        refine wpAnyH_ready (rs := [15]) (by kernel_rfl) (by simp) (AllReadyH.cons (o := ⟨some 8, _, _, _, _, _⟩) rfl (fun K hK => ?_) AllReadyH.nil)
        go_simp
        refine hK.out _ _ hHeld (fun hHeld => ?_)
        clear hK K hHeld
        refine wpAnyH_done (by kernel_rfl) ?_ _
        go_wp2_with fail
        go_ret
        exact ⟨rfl, B3.trans ((B6.trans (B8.mono z6)).mono B3.size)⟩
  · have e1 : (s == t) = false := beq_eq_false_iff_ne.2 hst
    go_wp2_with fail
    refine (awake_any _).mono ?_
    rintro e w4 ⟨rfl, hb4⟩
    go_wp2_with fail
    go_ret
    exact ⟨rfl, B3.trans (hb4.mono B3.size)⟩

theorem inetPseudos_walks : WalksTrue 8 Try.f8 := by
  intro H enc W base args ds p hval hA
  rw [Try.params8] at hA hval
  obtain ⟨v0, vs0, d0, ds0, p0, q0, hargs, rfl, rfl, h0, r0⟩ := trodAll_cons hA
  obtain ⟨v1, vs1, d1, ds1, p1, q1, rfl, rfl, rfl, h1, r1⟩ := trodAll_cons r0
  obtain ⟨v2, vs2, d2, ds2, p2, q2, rfl, rfl, rfl, h2, r2⟩ := trodAll_cons r1
  obtain ⟨v3, vs3, d3, ds3, p3, q3, rfl, rfl, rfl, h3, r3⟩ := trodAll_cons r2
  obtain ⟨rfl, rfl, rfl⟩ := trodAll_nil r3
  obtain rfl : args = #[v0, v1, v2, v3] := by cases args; simp_all
  obtain ⟨s0, bs0, rfl, hl0⟩ := open_addr (hval 0 40 v0 rfl rfl) h0
  obtain ⟨s1, bs1, rfl, hl1⟩ := open_addr (hval 1 40 v1 rfl rfl) h1
  obtain ⟨a2, rfl, rfl, rfl, w2⟩ := open_int Try.underlying5 (hval 2 5 v2 rfl rfl) h2
  obtain ⟨g2a, g2b⟩ := range_u8 w2
  obtain ⟨n2, rfl⟩ := Int.eq_ofNat_of_zero_le g2a
  obtain ⟨a3, rfl, rfl, rfl, w3⟩ := open_int Try.underlying23 (hval 3 23 v3 rfl rfl) h3
  obtain ⟨g3a, g3b⟩ := range_u16 w3
  obtain ⟨n3, rfl⟩ := Int.eq_ofNat_of_zero_le g3a
  exact inetPseudos_walk s0 bs0 hl0 s1 bs1 hl1 n2 (by omega) n3 (by omega) W

theorem inetPseudos_said : Rows.InetPseudosSaid :=
  OpenClaim.holds_of_wide 8 Try.f8 rfl rfl rfl rfl rfl rfl rfl ⟨rfl, rfl, rfl, rfl, rfl⟩ rfl rfl rfl rfl rfl (by kernel_rfl) Try.func8 (by kernel_rfl)
    (of_decide_eq_true (by kernel_rfl)) (by unfold Func.isWrapper; first | (rw [if_pos (by decide +kernel)]; kernel_rfl) | (rw [if_neg (by decide +kernel)]; exact ⟨rfl, rfl⟩))
    (fun os started H enc _ => law_lift (s := Rows.inetPseudosSpec) Try.func8 (by kernel_rfl) rfl rfl (by intro H ds hd; match ds, hd with | [_, _, _, _], _ => exact ⟨rfl, rfl, rfl⟩) (by kernel_rfl) inetPseudos_walks os started H enc
      (ChangeSpec.witness6 (enc := enc) (C := Try.checked) false ⟨#[], #[.agg #[.bool false, .int .u8 0, .int .u8 0, .int .u8 0, .int .u8 0, .int .u8 0, .int .u8 0, .int .u8 0, .int .u8 0, .int .u8 0, .int .u8 0, .int .u8 0, .int .u8 0, .int .u8 0, .int .u8 0, .int .u8 0, .int .u8 0], .agg #[.bool false, .int .u8 0, .int .u8 0, .int .u8 0, .int .u8 0, .int .u8 0, .int .u8 0, .int .u8 0, .int .u8 0, .int .u8 0, .int .u8 0, .int .u8 0, .int .u8 0, .int .u8 0, .int .u8 0, .int .u8 0, .int .u8 0], .int .u8 0, .int .u16 0], []⟩ 8 (by kernel_rfl) (by kernel_rfl) (by kernel_rfl) (by kernel_rfl)))

end Go.Proofs.Ytdfjdkbnbiglnaa
