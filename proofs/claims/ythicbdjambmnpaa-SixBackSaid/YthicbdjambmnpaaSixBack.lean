/-
  PROVED HERE: 'SixBackSaid': whatever h, l, load and more are, the Go function SixBack of package wayleavelaw09 returns true, and its arguments read behind the call as they read before. No condition.
-/
import Derived.Test.YthicbdjambmnpaaSMask
namespace Go.Proofs.Ythicbdjambmnpaa
open Go.RowKit Go.Lib Go.ChangeShapes Go.WideShapes Go.ChangeAt

/-- A header put together of its parts, another order. -/
theorem built_at3 (a0 a1 a2 a4 a5 : Int) (s d : Ad) (hs : s.b.length = 16) (hd : d.b.length = 16) : Try.prog.built 28 [(0, .int .i64 a0), (1, .int .i64 a1), (2, .int .i64 a2), (5, .int .i64 a5), (4, .int .i64 a4), (6, adC s), (7, adC d)] = some (frL ⟨a0, a1, a2, false, a4, a5, s, d⟩).toArray := by
  obtain ⟨s, sb⟩ := s
  obtain ⟨d, db⟩ := d
  obtain ⟨a0, a1, a2, a3, a4, a5, a6, a7, a8, a9, a10, a11, a12, a13, a14, a15, rfl⟩ := sixteen hs
  obtain ⟨b0, b1, b2, b3, b4, b5, b6, b7, b8, b9, b10, b11, b12, b13, b14, b15, rfl⟩ := sixteen hd
  kernel_rfl

set_option maxRecDepth 100000 in
set_option maxHeartbeats 40000000 in
theorem sixBack_walk (f : Fr) (hok : f.Ok) (A : Option Addr) (len cap : Nat) (l : List Ex) (hcap : len ≤ cap) (hcm : cap ≤ maxLen) (A2 : Option Addr) (len2 cap2 : Nat) (load : List UInt8) (hcap2 : len2 ≤ cap2) (hcm2 : cap2 ≤ maxLen) (A3 : Option Addr) (len3 cap3 : Nat) (more : List UInt8) (hcap3 : len3 ≤ cap3) (hcm3 : cap3 ≤ maxLen) (w : World) (hI : ExtsAt w w.heap.size A len l) (hJ : Rd w w.heap.size A2 len2 load) (hK : Rd w w.heap.size A3 len3 more) :
    Calls Try.prog 5 #[frC f, .slice A len cap, .slice A2 len2 cap2, .slice A3 len3 cap3] w fun e w' => e = .returned (.bool true) ∧ Below w.heap.size w w' := by
  have hq := Blk.new w 28 (frL f)
  have hB := (Below.refl w.heap.size w).alloc (Nat.le_refl _) (.cells (frL f).toArray 28)
  have HOK := Lib.hid hok
  have HI := Lib.hid hI
  have HL := Lib.hid hI.size
  have HFIT := Lib.hid hI.fit
  have HJ := Lib.hid hJ
  have HJL := Lib.hid hJ.len
  have HKM := Lib.hid hK
  have HKL := Lib.hid hK.len
  have hml : len ≤ 9223372036854775807 := by unfold maxLen at hcm; omega
  have hml2 : len2 ≤ 9223372036854775807 := by unfold maxLen at hcm2; omega
  have hml3 : len3 ≤ 9223372036854775807 := by unfold maxLen at hcm3; omega
  clear hJ hK
  unfold frC
  obtain ⟨Z, hZ⟩ : ∃ Z, w.alloc (.cells (frL f).toArray 28) = Z := ⟨_, rfl⟩
  rw [hZ] at hq hB
  have HQ := Lib.hid hq
  have HB := Lib.hid hB
  have HZ := Lib.hid hZ
  clear hq hB hZ hok hI
  go_enter Try.func5, Try.ntmps5
  go_wp2_with fail
  rw [HZ.out]
  refine (awake_any _).mono ?_
  rintro e w1 ⟨rfl, hb1⟩
  have HQ1 := Lib.hid (HQ.out.below HQ.out.lt hb1)
  have HB1 := Lib.hid (HB.out.trans (hb1.mono HB.out.size))
  clear hb1 HZ HQ HB
  cases hr : rightB f with
  | false =>
    have HR := Lib.hid (fun W => hr ▸ rright_any HOK.out W)
    clear hr
    go_wp2_with ((with_reducible show wpList _ _ _ _ _ _); refine wpList_loadFw (.tmp 4) rfl (by rfl) w.heap.size (by rfl) f HOK.out HQ1.out ?_)
    refine (HR.out _).mono ?_
    rintro e w2 ⟨rfl, hb2⟩
    have HB2 := Lib.hid (HB1.out.trans (hb2.mono HB1.out.size))
    clear hb2
    go_wp2_with fail
    refine (awake_any _).mono ?_
    rintro e w3 ⟨rfl, hb3⟩
    go_wp2_with fail
    go_ret
    exact ⟨rfl, HB2.out.trans (hb3.mono HB2.out.size)⟩
  | true =>
    have HR := Lib.hid (fun W => hr ▸ rright_any HOK.out W)
    have HRT := Lib.hid hr
    clear hr
    go_wp2_with ((with_reducible show wpList _ _ _ _ _ _); refine wpList_loadFw (.tmp 4) rfl (by rfl) w.heap.size (by rfl) f HOK.out HQ1.out ?_)
    refine (HR.out _).mono ?_
    rintro e w2 ⟨rfl, hb2⟩
    have HQ2 := Lib.hid (HQ1.out.below HQ1.out.lt hb2)
    have HB2 := Lib.hid (HB1.out.trans (hb2.mono HB1.out.size))
    clear hb2 HQ1 HB1 HR
    have HE2 := Lib.hid (HI.out.below HB2.out)
    have HJ2 := Lib.hid (HJ.out.below HB2.out)
    have HK2 := Lib.hid (HKM.out.below HB2.out)
    by_cases t1 : 8 < len
    · have t1' : (8 : Int) < (len : Int) := by omega
      go_wp2_with fail
      refine (awake_any _).mono ?_
      rintro e w3 ⟨rfl, hb3⟩
      go_wp2_with fail
      go_ret
      exact ⟨rfl, HB2.out.trans (hb3.mono HB2.out.size)⟩
    have t1' : ¬ (8 : Int) < (len : Int) := by omega
    by_cases t2 : 300 < len2
    · have t2' : (300 : Int) < (len2 : Int) := by omega
      go_wp2_with fail
      refine (awake_any _).mono ?_
      rintro e w3 ⟨rfl, hb3⟩
      go_wp2_with fail
      go_ret
      exact ⟨rfl, HB2.out.trans (hb3.mono HB2.out.size)⟩
    have t2' : ¬ (300 : Int) < (len2 : Int) := by omega
    by_cases t3 : 300 < len3
    · have t3' : (300 : Int) < (len3 : Int) := by omega
      go_wp2_with fail
      refine (awake_any _).mono ?_
      rintro e w3 ⟨rfl, hb3⟩
      go_wp2_with fail
      go_ret
      exact ⟨rfl, HB2.out.trans (hb3.mono HB2.out.size)⟩
    have t3' : ¬ (300 : Int) < (len3 : Int) := by omega
    have O2 := Lib.hid (emptyE (base := w2.heap.size) w2 (Nat.le_refl _))
    go_wp2_with (at_builtin; refine wpList_appendE (o := ⟨some 40, _, _, _, _, _⟩) rfl _ _ rfl w2.heap.size _ [] (by rfl) O2.out _ _ _ _ l (by rfl) (HE2.out.alloc HB2.out.size _) (by rw [List.length_nil]; omega) (by simp) ?_; intro v3 w3 ho3 hg3 _; rw [List.nil_append] at ho3; obtain ⟨B3, c3, rfl, hc3, hm3, _, hgg⟩ := ho3.sl HFIT.out HL.out)
    have e3 : Below w2.heap.size w2 w3 := ((Below.refl _ w2).alloc (Nat.le_refl _) (.cells #[] 43)).grown hg3 (by simp) (fun g hg => by simp [Value.ownBlock] at hg; omega)
    have HO3 := Lib.hid ho3
    have HE3 := Lib.hid e3
    have HGG := Lib.hid hgg
    have hg16 : ∀ p, p < 65536 → (p &&& 6) < 65536 := fun p _ => Nat.lt_of_le_of_lt Nat.and_le_right (show 6 < 65536 by decide)
    have HG16 := Lib.hid hg16
    clear hg3 ho3 e3 hgg hg16
    go_loopw [9, 11, 12] (fun v9 i v12 wr => ∃ (k : Nat) (z : Int), k ≤ len ∧ v9 = .int .i64 z ∧ i = .int .i64 (k : Int) ∧ z = ((sumN (l.take k) : Nat) : Int) ∧ OwnE wr w2.heap.size (.slice B3 len c3) (maskTo (fun p => p &&& 6) k l) ∧ Below w2.heap.size w2 wr) (fun _ i _ _ => len - (intOf i).toNat)
    case atStart => exact ⟨0, 0, by omega, rfl, rfl, rfl, by rw [maskTo_zero]; exact HO3.out, HE3.out⟩
    case round =>
      clear HO3 HE3
      obtain ⟨k, z, hk, rfl, rfl, hz, hown, hBr⟩ := hrel
      by_cases hlt : k < len
      · have hlt' : (k : Int) < (len : Int) := by omega
        obtain ⟨x, hx⟩ : ∃ x, l[k]? = some x := ⟨_, List.getElem?_eq_getElem (by rw [HL.out]; exact hlt)⟩
        obtain ⟨g, rfl, hbg, _⟩ := HGG.out (by omega)
        have hfit := HFIT.out x (List.mem_of_getElem? hx)
        obtain ⟨hxk, hxe⟩ := List.getElem?_eq_some_iff.1 hx
        have HSUM := Lib.hid (show sumN (l.take (k + 1)) = sumN (l.take k) + x.n by rw [List.take_succ_eq_append_getElem hxk, sumN_append, hxe]; rfl)
        have hmt := sumN_le (l.take k)
        rw [List.length_take] at hmt
        obtain ⟨b, off, rfl, hbw⟩ := HI.out.addr (by omega)
        have HCL := Lib.hid (fun W (hW : Below w2.heap.size w2 W) => (HE2.out.below (hW.mono HB2.out.size)).cell hx)
        obtain ⟨d0, d1, d2⟩ := HCL.out wr hBr
        have HOW := Lib.hid hown
        have HBR := Lib.hid hBr
        have HX := Lib.hid hx
        have HBG := Lib.hid hbg
        have hand := and16 x.part 6 hfit.p (by decide)
        rw [show ((6 : Nat) : Int) = 6 from rfl] at hand
        have hkk := kOf_lt x.kind
        have hxk2 : x.k = kOf x.kind := rfl
        have hxn := x.n_ge
        have hxl := x.n_le
        have n51 : x.k = 51 → x.n = 8 + 4 * (x.long % 3) := fun h => by unfold Ex.n; rw [if_pos h]
        have n44 : x.k = 44 → x.n = 8 := fun h => by unfold Ex.n; rw [if_neg (by omega), if_pos h]
        have nel : x.k ≠ 51 → x.k ≠ 44 → x.n = 8 + 8 * (x.long % 3) := fun h1 h2 => by unfold Ex.n; rw [if_neg h1, if_neg h2]
        rw [hxk2] at n51 n44 nel
        have HMS := Lib.hid (maskTo_set (fun p => p &&& 6) hx)
        have HMG := Lib.hid (maskTo_get (fun p => p &&& 6) hx)
        obtain ⟨hk0, hl0, hp0⟩ := hfit
        have HP6 := Lib.hid (show ∀ p, x.part &&& 6 = p → x.setP ((fun p => p &&& 6) x.part) = x.setP p from fun p h => by rw [← h])
        obtain ⟨p6, hp6⟩ : ∃ p6, x.part &&& 6 = p6 := ⟨_, rfl⟩
        have hset6 := HP6.out p6 hp6
        rw [hset6] at HMS
        rw [hp6] at hand
        obtain ⟨kk, hkke⟩ : ∃ kk, kOf x.kind = kk := ⟨_, rfl⟩
        rw [hkke] at n51 n44 nel hkk
        generalize hx0 : x.kind = x0 at *
        generalize hx1 : x.long = x1 at *
        generalize hx2 : x.part = x2 at *
        generalize hxnn : x.n = nn at *
        subst hz
        generalize hmtt : sumN (l.take k) = mt at *
        have m5 : ((x0 : Int)).tmod 5 = (x0 : Int) % 5 := Int.tmod_eq_emod_of_nonneg (by omega)
        have t5 : IntKind.u8.wrap ((x0 : Int) % 5) = (x0 : Int) % 5 := by rw [IntKind.wrap_u8]; omega
        have s5 : IntKind.i64.wrap ((x0 : Int) % 5) = (x0 : Int) % 5 := by rw [IntKind.wrap_i64]; omega
        have l5 : (x0 : Int) % 5 < 5 := by omega
        have p5 : 0 ≤ (x0 : Int) % 5 := by omega
        have tn5 : ((x0 : Int) % 5).toNat = x0 % 5 := by omega
        have m3 : ((x1 : Int)).tmod 3 = (x1 : Int) % 3 := Int.tmod_eq_emod_of_nonneg (by omega)
        have t33 : IntKind.u8.wrap ((x1 : Int) % 3) = (x1 : Int) % 3 := by rw [IntKind.wrap_u8]; omega
        have s3 : IntKind.i64.wrap ((x1 : Int) % 3) = (x1 : Int) % 3 := by rw [IntKind.wrap_i64]; omega
        have hw8 : IntKind.i64.wrap ((mt : Int) + 8) = (mt : Int) + 8 := by rw [IntKind.wrap_i64]; omega
        have HMT := Lib.hid (show mt ≤ 300 by omega)
        clear hown hBr hx hbg hxk hxe hset6 HP6 hp6 hkk hxk2 hxn hxl hmtt hbw hmt hk0 hl0 hp0 hx0 hx1 hx2 hxnn
        go_wp2_with ((with_reducible show wpList _ _ _ _ _ _); refine wpList_storeP rfl (.tmp 56) (.tmp 54) rfl g (k * 3 + 2) k rfl (by rfl) p6 (p6 : Int) rfl (by rfl) _ len c3 w2.heap.size (by rw [maskTo_len]; exact HL.out) HOW.out x HMG.out ?_; intro w4 ho4 hb4; have HO4 : Hid (OwnE w4 w2.heap.size (.slice (some ⟨g, 0, none⟩) len c3) (maskTo (fun p => p &&& 6) (k + 1) l)) := Lib.hid (by rw [← HMS.out]; exact ho4); have HB4 := Lib.hid (HBR.out.trans (hb4.mono HBG.out)); have HC := Lib.hid (fun W (hW : Below w4.heap.size w4 W) => HCL.out W (HB4.out.trans (hW.mono HB4.out.size))); clear ho4 hb4 d0 d1 d2)
        refine wp_region_held_drew (S := fun W => Below w4.heap.size w4 W) (by kernel_rfl) (Below.refl _ _).drew (fun hHeld => ?_)
        refine wpAnyH_take (i := 1) (oi := ⟨some 60, _, _, _, _, _⟩) (v := .slice (some ⟨b, off, none⟩) len cap) rfl (by kernel_rfl) (by kernel_rfl) (by kernel_rfl) (fun _ _ _ h => h) (Or.inl ⟨by rfl, fun _ _ => by go_simp⟩) hHeld ?_
        simp only [Act.put, List.setIfInBounds_toArray, List.set_cons_zero, List.set_cons_succ]
        refine wpAnyH_take (i := 2) (oi := ⟨some 61, _, _, _, _, _⟩) (v := .int .i64 (k : Int)) rfl (by kernel_rfl) (by kernel_rfl) (by kernel_rfl) (fun _ _ _ h => h) (Or.inl ⟨by rfl, fun _ _ => by go_simp⟩) hHeld ?_
        simp only [Act.put, List.setIfInBounds_toArray, List.set_cons_zero, List.set_cons_succ]
        refine wpAnyH_take (i := 3) (oi := ⟨some 62, _, _, _, _, _⟩) (v := .pointer (some ⟨b, off + k * 3, none⟩)) rfl (by kernel_rfl) (by kernel_rfl) (by kernel_rfl) (fun _ _ _ h => h) (Or.inl ⟨by rfl, fun _ _ => by go_simp⟩) hHeld ?_
        simp only [Act.put, List.setIfInBounds_toArray, List.set_cons_zero, List.set_cons_succ]
        refine wpAnyH_take (i := 4) (oi := ⟨some 63, _, _, _, _, _⟩) (v := .pointer (some ⟨b, off + k * 3, none⟩)) rfl (by kernel_rfl) (by kernel_rfl) (by kernel_rfl) (fun _ _ _ h => h) (Or.inl ⟨by rfl, fun _ _ => by go_simp⟩) hHeld ?_
        simp only [Act.put, List.setIfInBounds_toArray, List.set_cons_zero, List.set_cons_succ]
        refine wpAnyH_take (i := 5) (oi := ⟨some 64, _, _, _, _, _⟩) (v := .int .u8 (x0 : Int)) rfl (by kernel_rfl) (by kernel_rfl) (by kernel_rfl) (fun _ _ _ h => h) (Or.inl ⟨by rfl, fun W hW => by have hc := (HC.out W hW).1; go_simp⟩) hHeld ?_
        simp only [Act.put, List.setIfInBounds_toArray, List.set_cons_zero, List.set_cons_succ]
        refine wpAnyH_take (i := 6) (oi := ⟨some 65, _, _, _, _, _⟩) (v := .int .u8 ((x0 : Int) % 5)) rfl (by kernel_rfl) (by kernel_rfl) (by kernel_rfl) (fun _ _ _ h => h) (Or.inl ⟨by rfl, fun _ _ => by go_simp⟩) hHeld ?_
        simp only [Act.put, List.setIfInBounds_toArray, List.set_cons_zero, List.set_cons_succ]
        refine wpAnyH_take (i := 7) (oi := ⟨some 66, _, _, _, _, _⟩) (v := .int .i64 ((x0 : Int) % 5)) rfl (by kernel_rfl) (by kernel_rfl) (by kernel_rfl) (fun _ _ _ h => h) (Or.inl ⟨by rfl, fun _ _ => by go_simp⟩) hHeld ?_
        simp only [Act.put, List.setIfInBounds_toArray, List.set_cons_zero, List.set_cons_succ]
        refine wpAnyH_ready (rs := [0]) (by kernel_rfl) (by simp) (AllReadyH.cons (o := ⟨some 59, _, _, _, _, _⟩) rfl (fun K hK => ?_) AllReadyH.nil)
        go_simp
        refine (kinds_any _).mono ?_
        rintro e5 w5 ⟨gk5, rfl, hb5, hck⟩
        have hcx := hck x0
        refine hK.out _ _ (hHeld.trans (hb5.mono hHeld.size)) (fun hHeld => ?_)
        clear hK K hb5 hck
        refine wpAnyH_take (i := 8) (oi := ⟨some 67, _, _, _, _, _⟩) (v := .pointer (some ⟨gk5, x0 % 5, none⟩)) rfl (by kernel_rfl) (by kernel_rfl) (by kernel_rfl) (fun _ _ _ h => h) (Or.inl ⟨by rfl, fun _ _ => by go_simp⟩) hHeld ?_
        simp only [Act.put, List.setIfInBounds_toArray, List.set_cons_zero, List.set_cons_succ]
        refine wpAnyH_ready (rs := [9]) (by kernel_rfl) (by simp) (AllReadyH.cons (o := ⟨some 68, _, _, _, _, _⟩) rfl (fun K hK => ?_) AllReadyH.nil)
        go_simp
        refine hK.out _ _ hHeld (fun hHeld => ?_)
        clear hK K hcx
        refine wpAnyH_take (i := 10) (oi := ⟨some 12, _, _, _, _, _⟩) (v := .int .i64 (kk : Int)) rfl (by kernel_rfl) (by kernel_rfl) (by kernel_rfl) (fun _ _ _ h => h) (Or.inl ⟨by rfl, fun _ _ => by go_simp⟩) hHeld ?_
        simp only [Act.put, List.setIfInBounds_toArray, List.set_cons_zero, List.set_cons_succ]
        refine wpAnyH_done (by kernel_rfl) ?_ _
        obtain ⟨d0, d1, d2⟩ := HC.out w5 hHeld
        have HO5 := Lib.hid (HO4.out.below hHeld)
        have HB5 := Lib.hid (HB4.out.trans (hHeld.mono HB4.out.size))
        clear hHeld HC HO4 HB4
        by_cases hk51 : kk = 51
        · have q51 : ((kk : Int) == 51) = true := by simp; omega
          have q44n : ((kk : Int) != 44) = true := by simp; omega
          have hn := n51 hk51
          have hw1 : IntKind.i64.wrap (4 * ((x1 : Int) % 3)) = 4 * ((x1 : Int) % 3) := by rw [IntKind.wrap_i64]; omega
          have hw2 : IntKind.i64.wrap ((mt : Int) + 8 + 4 * ((x1 : Int) % 3)) = (mt : Int) + 8 + 4 * ((x1 : Int) % 3) := by have := HMT.out; rw [IntKind.wrap_i64]; omega
          have HV := Lib.hid (show (mt : Int) + 8 + 4 * ((x1 : Int) % 3) = ((mt + nn : Nat) : Int) by omega)
          have Q51 := Lib.hid q51
          have Q44n := Lib.hid q44n
          clear n51 n44 nel hn q51 q44n hk51
          have q51 := Q51.out
          have q44n := Q44n.out
          go_wp2_with fail
          go_roundw
          case rel => exact ⟨k + 1, (mt : Int) + 8 + 4 * ((x1 : Int) % 3), by omega, rfl, by go_num, by rw [HSUM.out]; exact HV.out, HO5.out, HB5.out⟩
          case measure => simp [intOf]; omega
        by_cases hk44 : kk = 44
        · have q51 : ((kk : Int) == 51) = false := by simp; omega
          have q44n : ((kk : Int) != 44) = false := by simp; omega
          have hn := n44 hk44
          have HV := Lib.hid (show (mt : Int) + 8 = ((mt + nn : Nat) : Int) by omega)
          have Q51 := Lib.hid q51
          have Q44n := Lib.hid q44n
          clear n51 n44 nel hn q51 q44n hk51 hk44
          have q51 := Q51.out
          have q44n := Q44n.out
          go_wp2_with fail
          go_roundw
          case rel => exact ⟨k + 1, (mt : Int) + 8, by omega, rfl, by go_num, by rw [HSUM.out]; exact HV.out, HO5.out, HB5.out⟩
          case measure => simp [intOf]; omega
        have q51 : ((kk : Int) == 51) = false := by simp; omega
        have q44n : ((kk : Int) != 44) = true := by simp; omega
        have hn := nel hk51 hk44
        have hw1 : IntKind.i64.wrap (8 * ((x1 : Int) % 3)) = 8 * ((x1 : Int) % 3) := by rw [IntKind.wrap_i64]; omega
        have hw2 : IntKind.i64.wrap ((mt : Int) + 8 + 8 * ((x1 : Int) % 3)) = (mt : Int) + 8 + 8 * ((x1 : Int) % 3) := by have := HMT.out; rw [IntKind.wrap_i64]; omega
        have HV := Lib.hid (show (mt : Int) + 8 + 8 * ((x1 : Int) % 3) = ((mt + nn : Nat) : Int) by omega)
        have Q51 := Lib.hid q51
        have Q44n := Lib.hid q44n
        clear n51 n44 nel hn q51 q44n hk51 hk44
        have q51 := Q51.out
        have q44n := Q44n.out
        go_wp2_with fail
        go_roundw
        case rel => exact ⟨k + 1, (mt : Int) + 8 + 8 * ((x1 : Int) % 3), by omega, rfl, by go_num, by rw [HSUM.out]; exact HV.out, HO5.out, HB5.out⟩
        case measure => simp [intOf]; omega
      · have hlt' : ¬ (k : Int) < (len : Int) := by omega
        rw [maskTo_all _ (by rw [HL.out]; omega)] at hown
        rw [List.take_of_length_le (by rw [HL.out]; omega)] at hz
        have hms := mk_sum (fun p => p &&& 6) l
        have hlsl : (l.map (mk (fun p => p &&& 6))).length = len := by rw [List.length_map]; exact HL.out
        have hidle := mk_idle (fun p => p &&& 6) HG16.out idle_frag HFIT.out
        have hfit2 := mk_fit (fun p => p &&& 6) HG16.out HFIT.out
        generalize l.map (mk (fun p => p &&& 6)) = ls at *
        have hmle := sumN_le ls
        rw [hlsl] at hmle
        rw [← hms] at hz
        obtain ⟨q1, q2⟩ := whole_back HOK.out HRT.out ls load more (by rw [HJL.out]; omega) (by omega) hidle
        have hwl := whole_len HOK.out ls load
        rw [HJL.out, hlsl] at q2
        rw [HJL.out] at hwl
        rw [show ((40 + sumN ls : Nat) : Int) = 40 + z by omega, show ((40 + (sumN ls + len2) : Nat) : Int) = 40 + z + (len2 : Int) by omega] at q2
        have hwh := fun W (h1 : ExtsAt W W.heap.size B3 len ls) (h2 : Rd W W.heap.size A2 len2 load) => whole_any HOK.out HRT.out B3 len c3 ls (by omega) A2 len2 cap2 load (by omega) W h1 h2
        generalize wholeB f ls load = xb at *
        obtain ⟨Bn, hBn⟩ : ∃ Bn, 40 + (sumN ls + len2) = Bn := ⟨_, rfl⟩
        rw [hBn] at hwl
        have hw8 : IntKind.i64.wrap (40 + z) = 40 + z := by rw [IntKind.wrap_i64]; omega
        have hw9 : IntKind.i64.wrap (40 + z + (len2 : Int)) = 40 + z + (len2 : Int) := by rw [IntKind.wrap_i64]; omega
        have HBX := Lib.hid (show Bn + len3 ≤ 1000000 by omega)
        obtain ⟨F, hF⟩ : ∃ F : Fr, (⟨40 + z, 40 + z + (len2 : Int), f.hop, false, (len : Int), f.proto, f.s, f.d⟩ : Fr) = F := ⟨_, rfl⟩
        have hFO : F.Ok := by rw [← hF]; exact ⟨HOK.out.s, HOK.out.d⟩
        have hBU := built_at3 (40 + z) (40 + z + (len2 : Int)) f.hop (len : Int) f.proto f.s f.d HOK.out.s HOK.out.d
        rw [hF] at q2 hBU
        have HFO := Lib.hid hFO
        have HBU := Lib.hid hBU
        have HFIELD := Lib.hid (fun (W : World) (hW : Blk W 28 w.heap.size (frL f)) => show W.cell? ⟨w.heap.size, 2, none⟩ = some (.int .i64 f.hop) ∧ W.cell? ⟨w.heap.size, 5, none⟩ = some (.int .i64 f.proto) from ⟨hW.cell rfl, hW.cell rfl⟩)
        have Q1 := Lib.hid q1
        have Q2 := Lib.hid q2
        have HWL := Lib.hid hwl
        have HEA := Lib.hid (hown.at_ hfit2 hlsl)
        have HBR := Lib.hid (HB2.out.trans (hBr.mono HB2.out.size))
        have HQR := Lib.hid (HQ2.out.below HQ2.out.lt hBr)
        have HJR := Lib.hid ((HJ2.out.below (hBr.mono HB2.out.size)).more HBR.out.size)
        have HKR := Lib.hid (HK2.out.below (hBr.mono HB2.out.size))
        have HWH := Lib.hid (hwh wr HEA.out HJR.out)
        clear hown hBr hlt hms hlsl hidle hfit2 hmle hz q1 q2 hwl hwh hBn hF hFO hBU HEA HJR HRT HG16 HGG
        go_wp2_with ((with_reducible show wpList _ _ _ _ _ _); refine wpList_loadF rfl (.tmp 4) rfl w.heap.size (by rfl) f HOK.out HQR.out ?_)
        refine HWH.out.mono ?_
        rintro e w7 ⟨v7, rfl, ho7, hb7⟩
        have HO7 := Lib.hid ho7
        have HB7 := Lib.hid (HBR.out.trans (hb7.mono HBR.out.size))
        have HQ7 := Lib.hid (HQR.out.below HQR.out.lt hb7)
        have HK7 := Lib.hid (HKR.out.below (hb7.mono HBR.out.size))
        have HX7 := Lib.hid hb7.size
        clear ho7 hb7
        go_wp2_with (at_builtin; refine wpList_append8 (o := ⟨some 99, _, _, _, _, _⟩) rfl _ _ rfl wr.heap.size _ xb (by rfl) HO7.out _ _ _ _ more (by rfl) HK7.out (by rw [HWL.out]; have := HBX.out; omega) HX7.out ?_; intro v8 w8 ho8 hg8 _; obtain ⟨A8, c8, rfl, hc8, hm8, hr8⟩ := ho8.form (n := Bn + len3) (by rw [List.length_append, HWL.out, HKL.out]); have HR8 := Lib.hid hr8; have e8 := (Below.refl wr.heap.size w7).grown hg8 HX7.out (fun g hg => HO7.out.lt g hg); have HQ8 := Lib.hid (HQ7.out.below HQR.out.lt e8); have HB8 := Lib.hid (HB7.out.trans (e8.mono HBR.out.size)); clear hr8 ho8 hg8 e8)
        refine (read_as Q2.out Q1.out HBX.out hc8 hm8 HR8.out).mono ?_
        rintro e w9 ⟨rfl, hb9⟩
        have HB9 := Lib.hid (HB8.out.trans (hb9.mono HB8.out.size))
        have HQ9 := Lib.hid (HQ8.out.below HQ8.out.lt hb9)
        clear hb9
        go_wp2_with (first
          | ((with_reducible show wpList _ _ _ _ _ _); refine wpList_storeNew rfl (.tmp 13) (.tmp 101) rfl (by rfl) F HFO.out (by rfl) ?_; intro wa hXa hba hza; clear hza; have HBa := Lib.hid (HB9.out.trans (hba.mono HB9.out.size)); have HQa := Lib.hid (HQ9.out.below HQ9.out.lt hba); have HXa := Lib.hid hXa; obtain ⟨f2, f5⟩ := HFIELD.out wa HQa.out; clear hXa hba)
          | ((with_reducible show wpList _ _ _ _ _ _); refine wpList_loadFw (.tmp 13) rfl (by rfl) w9.heap.size (by rfl) F HFO.out HXa.out ?_)
          | ((with_reducible show wpList _ _ _ _ _ _); refine wpList_loadAw (.tmp 120) rfl (by rfl) w.heap.size 6 (by rfl) f.s HOK.out.s HQa.out.src ?_)
          | ((with_reducible show wpList _ _ _ _ _ _); refine wpList_loadAw (.tmp 122) rfl (by rfl) w.heap.size 23 (by rfl) f.d HOK.out.d (HQa.out.dst HOK.out) ?_)
          | ((with_reducible show wpList _ _ _ _ _ _); refine wpList_buildw 28 _ rfl (by rfl) _ (by kernel_rfl) _ HBU.out ?_)
          | ((with_reducible show wpList _ _ _ _ _ _); refine wpList_eqlw 28 _ _ _ rfl (by rfl) (frL F).toArray (frL F).toArray (by rfl) (by rfl) guard_fr true (fun W => run_eql_fr W HFO.out) ?_))
        go_ret
        exact ⟨rfl, HBa.out⟩

theorem sixBack_walks : WalksTrue 5 Try.f5 := by
  intro H enc W base args ds p hval hA
  rw [Try.params5] at hA hval
  obtain ⟨v0, vs0, d0, ds0, p0, q0, hargs, rfl, rfl, h0, r0⟩ := trodAll_cons hA
  obtain ⟨v1, vs1, d1, ds1, p1, q1, rfl, rfl, rfl, h1, r1⟩ := trodAll_cons r0
  obtain ⟨v2, vs2, d2, ds2, p2, q2, rfl, rfl, rfl, h2, r2⟩ := trodAll_cons r1
  obtain ⟨v3, vs3, d3, ds3, p3, q3, rfl, rfl, rfl, h3, r3⟩ := trodAll_cons r2
  obtain ⟨rfl, rfl, rfl⟩ := trodAll_nil r3
  obtain rfl : args = #[v0, v1, v2, v3] := by cases args; simp_all
  obtain ⟨L0, rfl, s0⟩ := open_sixh (hval 0 28 v0 rfl rfl) h0
  obtain ⟨A1, len1, cap1, xs1, rfl, hc1, hm1, hI1⟩ := open_exts (hval 1 40 v1 rfl rfl) h1
  obtain ⟨A2, len2, cap2, xs2, rfl, hc2, hm2, hI2⟩ := open_bytes (hval 2 22 v2 rfl rfl) h2
  obtain ⟨A3, len3, cap3, xs3, rfl, hc3, hm3, hI3⟩ := open_bytes (hval 3 22 v3 rfl rfl) h3
  exact sixBack_walk L0 s0 A1 len1 cap1 xs1 hc1 hm1 A2 len2 cap2 xs2 hc2 hm2 A3 len3 cap3 xs3 hc3 hm3 W hI1 hI2 hI3

theorem sixBack_said : Rows.SixBackSaid :=
  OpenClaim.holds_of_wide 5 Try.f5 rfl rfl rfl rfl rfl rfl rfl ⟨rfl, rfl, rfl, rfl, rfl⟩ rfl rfl rfl rfl rfl (by kernel_rfl) Try.func5 (by kernel_rfl)
    (of_decide_eq_true (by kernel_rfl)) (by unfold Func.isWrapper; first | (rw [if_pos (by decide +kernel)]; kernel_rfl) | (rw [if_neg (by decide +kernel)]; exact ⟨rfl, rfl⟩))
    (fun os started H enc _ => law_lift (s := Rows.sixBackSpec) Try.func5 (by kernel_rfl) rfl rfl (by intro H ds hd; match ds, hd with | [_, _, _, _], _ => exact ⟨rfl, rfl, rfl⟩) (by kernel_rfl) sixBack_walks os started H enc
      (ChangeSpec.witness6 (enc := enc) (C := Try.checked) false ⟨#[], #[.agg #[.int .i64 0, .int .i64 0, .int .i64 0, .bool false, .int .i64 0, .int .i64 0, .bool false, .int .u8 0, .int .u8 0, .int .u8 0, .int .u8 0, .int .u8 0, .int .u8 0, .int .u8 0, .int .u8 0, .int .u8 0, .int .u8 0, .int .u8 0, .int .u8 0, .int .u8 0, .int .u8 0, .int .u8 0, .int .u8 0, .bool false, .int .u8 0, .int .u8 0, .int .u8 0, .int .u8 0, .int .u8 0, .int .u8 0, .int .u8 0, .int .u8 0, .int .u8 0, .int .u8 0, .int .u8 0, .int .u8 0, .int .u8 0, .int .u8 0, .int .u8 0, .int .u8 0], .slice none 0 0, .slice none 0 0, .slice none 0 0], []⟩ 8 (by kernel_rfl) (by kernel_rfl) (by kernel_rfl) (by kernel_rfl)))

end Go.Proofs.Ythicbdjambmnpaa
