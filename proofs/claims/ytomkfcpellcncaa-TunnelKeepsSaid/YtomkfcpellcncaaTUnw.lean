/-
  tunnel.Unwrap.
-/
import Derived.Test.YtomkfcpellcncaaTWrap
namespace Go.Proofs.Ytomkfcpellcncaa
set_option maxRecDepth 100000
open Go.RowKit Go.Lib

/-- What tunnel.Unwrap answers. -/
def UwGave (w : World) (xs : List UInt8) (e : Ending) (w' : World) : Prop :=
  (unB xs = true → ∃ v, e = .returned (.tuple #[v, .int .i64 0]) ∧ Own8 w' w.heap.size v (unL xs)) ∧
  (unB xs = false → e = .returned (.tuple #[.slice none 0 0, .int .i64 3])) ∧ Below w.heap.size w w'

set_option maxHeartbeats 4000000 in
theorem tunw_no (A : Option Addr) (len cap : Nat) (xs : List UInt8) (hlen : len ≤ 900000) (hcap : len ≤ cap) (hcm : cap ≤ maxLen) (h0 : (fN xs).e ≠ 0) (w : World) (hI : Rd w w.heap.size A len xs) :
    Calls Try.prog 13 #[.slice A len cap] w fun e w' => e = .returned (.tuple #[.slice none 0 0, .int .i64 3]) ∧ Below w.heap.size w w' := by
  have hPK := tpack_any A len cap xs (by omega) hcap hcm w hI
  unfold PkGave at hPK
  have HPK := Lib.hid hPK
  have H0 := Lib.hid h0
  clear hPK h0 hI
  go_enter Try.func13, Try.ntmps13
  go_wp2_with fail
  refine HPK.out.mono ?_
  rintro e w1 ⟨hx, hz, hb1⟩
  obtain ⟨L, At, mt, ct, h6, rfl⟩ := hx H0.out
  have H6 := Lib.hid h6
  have HB1 := Lib.hid hb1
  clear hb1 h6 hx hz
  go_wp2_with (first
    | ((with_reducible show wpList _ _ _ (⟨none, .store 41 (.tmp 4) (.tmp 11), _, _, _, _⟩ :: _) _ _); refine wpList_storeNew2 (op := ⟨none, .store 41 (.tmp 4) (.tmp 11), _, _, _, _⟩) rfl 41 54 _ _ rfl (by rfl) (lkL L (.slice At mt ct)) (by rfl) (by rw [lkL_len H6.out]; rfl) (sizeLkL H6.out _) (lkL_one L _ rfl) ?_; intro w2 hl2 hi2 hb2; have HK2 := Lib.hid hl2; have HI2 := Lib.hid (show Blk w2 54 (w1.heap.size + 1) ip0 from hi2); have HB2 := Lib.hid (HB1.out.trans (hb2.mono HB1.out.size)); have HG := Lib.hid HB1.out.size; clear hl2 hi2 hb2; generalize w1.heap.size = G at HK2 HI2 HG ⊢)
    | ((with_reducible show wpList _ _ _ (⟨none, .store 54 (.tmp 5) (.tmp 12), _, _, _, _⟩ :: _) _ _); refine wpList_storeRG rfl 54 (.tmp 5) _ rfl (G + 1) (by rfl) ip0 (by rfl) _ HI2.out rfl sizeIp ip0_one ?_; intro w3 hi3 hn3 hb3; have HI3 := Lib.hid hi3; have HK3 := Lib.hid (show Blk w3 41 G _ from (hn3 _ (Nat.ne_of_lt (Nat.lt_succ_self _))).trans HK2.out); have HB3 := Lib.hid (HB2.out.trans (hb3.mono (Nat.le_succ_of_le HG.out))); clear hi3 hn3 hb3))
  go_ret2
  exact ⟨rfl, HB3.out⟩

set_option maxHeartbeats 4000000 in
theorem tunw_frag (A : Option Addr) (len cap : Nat) (xs : List UInt8) (hlen : len ≤ 900000) (hcap : len ≤ cap) (hcm : cap ≤ maxLen) (h0 : (fN xs).e = 0) (hfr : (fN xs).frag = true) (w : World) (hI : Rd w w.heap.size A len xs) :
    Calls Try.prog 13 #[.slice A len cap] w fun e w' => e = .returned (.tuple #[.slice none 0 0, .int .i64 3]) ∧ Below w.heap.size w w' := by
  have hPK := tpack_any A len cap xs (by omega) hcap hcm w hI
  unfold PkGave at hPK
  have N0 := h0
  have hF := frame_of h0
  have h6 := hF.six
  obtain ⟨L, hL⟩ : ∃ L, (rdOf xs).1 = L := ⟨_, rfl⟩
  obtain ⟨n, hn⟩ : ∃ n, fN xs = n := ⟨_, rfl⟩
  rw [hn] at hfr
  rw [hL, hn, hfr] at hPK
  rw [hn] at N0
  rw [hL] at h6
  obtain ⟨T, hT⟩ : ∃ T, n.total = T := ⟨_, rfl⟩
  obtain ⟨M, hM⟩ : ∃ M, n.total - n.head = M := ⟨_, rfl⟩
  obtain ⟨p, hp⟩ : ∃ p, n.proto = p := ⟨_, rfl⟩
  obtain ⟨a, ha⟩ : ∃ a, asN L.ty = a := ⟨_, rfl⟩
  obtain ⟨ty, hty⟩ : ∃ ty, L.ty = ty := ⟨_, rfl⟩
  rw [hM, hT, hp, ha, hty] at hPK
  have HPK := Lib.hid hPK
  have H6 := Lib.hid h6
  have N0 := Lib.hid N0
  clear hPK h0 hI hF h6 hL hn hT hM hp ha hty hfr
  go_enter Try.func13, Try.ntmps13
  go_wp2_with fail
  refine HPK.out.mono ?_
  rintro e w1 ⟨hx, hz, hb1⟩
  obtain ⟨At, mt, ct, A1, c1, A2, c2, rfl, hown, hs1, hs2⟩ := hz N0.out
  have HB1 := Lib.hid hb1
  clear hb1 hx hz hown hs1 hs2 HPK
  go_wp2_with (first
    | ((with_reducible show wpList _ _ _ (⟨none, .store 41 (.tmp 4) (.tmp 11), _, _, _, _⟩ :: _) _ _); refine wpList_storeNew2 (op := ⟨none, .store 41 (.tmp 4) (.tmp 11), _, _, _, _⟩) rfl 41 54 _ _ rfl (by rfl) (lkL L (.slice At mt ct)) (by rfl) (by rw [lkL_len H6.out]; rfl) (sizeLkL H6.out _) (lkL_one L _ rfl) ?_; intro w2 hl2 hi2 hb2; have HK2 := Lib.hid hl2; have HI2 := Lib.hid (show Blk w2 54 (w1.heap.size + 1) ip0 from hi2); have HB2 := Lib.hid (HB1.out.trans (hb2.mono HB1.out.size)); have HG := Lib.hid HB1.out.size; clear hl2 hi2 hb2; generalize w1.heap.size = G at HK2 HI2 HG ⊢)
    | ((with_reducible show wpList _ _ _ (⟨none, .store 54 (.tmp 5) (.tmp 12), _, _, _, _⟩ :: _) _ _); refine wpList_storeRG rfl 54 (.tmp 5) _ rfl (G + 1) (by rfl) (ipL ty (a : Int) (.slice A1 T c1) (.slice A2 M c2) (p : Int) true) (by rfl) _ HI2.out rfl sizeIp (ipL_one _ _ _ _ _ _ _ _ _ _) ?_; intro w3 hi3 hn3 hb3; have HI3 := Lib.hid hi3; have HK3 := Lib.hid (show Blk w3 41 G _ from (hn3 _ (Nat.ne_of_lt (Nat.lt_succ_self _))).trans HK2.out); have HB3 := Lib.hid (HB2.out.trans (hb3.mono (Nat.le_succ_of_le HG.out))); have e5 := Blk_10.cell HI3.out (i := 5) (v := .bool true) rfl; clear hi3 hn3 hb3))
  go_ret2
  exact ⟨rfl, HB3.out⟩

set_option maxHeartbeats 8000000 in
theorem tunw_yes (A : Option Addr) (len cap : Nat) (xs : List UInt8) (hlen : len ≤ 900000) (hcap : len ≤ cap) (hcm : cap ≤ maxLen) (h0 : (fN xs).e = 0) (hfr : (fN xs).frag = false) (w : World) (hI : Rd w w.heap.size A len xs) :
    Calls Try.prog 13 #[.slice A len cap] w (UwGave w xs) := by
  have hrt := (frame_of h0).right
  have hbd : (fN xs).total - (fN xs).head ≤ 900000 := by have := (frame_of h0).h2; rw [hI.len] at this; omega
  have hin : inN xs = ntP (fN xs).proto (inL xs) := rfl
  have hit : (inN xs).total ≤ (inL xs).length := (ntP_fits _ _).h2
  have hil : (inL xs).length = (fN xs).total - (fN xs).head := by
    have := (frame_of h0).h2
    have := (frame_of h0).h1
    show (segN (xs.drop (atK xs)) (fN xs)).length = _
    unfold segN
    rw [List.length_take, List.length_drop, List.length_drop]
    omega
  have hub : unB xs = decide ((inN xs).e = 0) := by unfold unB; rw [h0, hfr]; rfl
  unfold UwGave
  rw [hub]
  have hPK := tpack_any A len cap xs (by omega) hcap hcm w hI
  unfold PkGave at hPK
  have N0 := h0
  have hF := frame_of h0
  have h6 := hF.six
  obtain ⟨L, hL⟩ : ∃ L, (rdOf xs).1 = L := ⟨_, rfl⟩
  obtain ⟨n, hn⟩ : ∃ n, fN xs = n := ⟨_, rfl⟩
  have hul : unL xs = lkB { L with ty := tyP n.proto } ++ (inL xs).take (inN xs).total := by rw [← hL, ← hn]; rfl
  rw [hul]
  clear hul hub
  rw [hn] at hfr hin hil hbd
  rw [hL, hn, hfr] at hPK
  rw [hL] at hrt
  rw [hn] at N0
  rw [hL] at h6
  obtain ⟨T, hT⟩ : ∃ T, n.total = T := ⟨_, rfl⟩
  obtain ⟨M, hM⟩ : ∃ M, n.total - n.head = M := ⟨_, rfl⟩
  obtain ⟨p, hp⟩ : ∃ p, n.proto = p := ⟨_, rfl⟩
  obtain ⟨a, ha⟩ : ∃ a, asN L.ty = a := ⟨_, rfl⟩
  obtain ⟨ty, hty⟩ : ∃ ty, L.ty = ty := ⟨_, rfl⟩
  rw [hM, hT, hp, ha, hty] at hPK
  have HPK := Lib.hid hPK
  have H6 := Lib.hid h6
  have N0 := Lib.hid N0
  rw [hp] at hin ⊢
  rw [hM] at hil hbd
  obtain ⟨ib, hib⟩ : ∃ l, inL xs = l := ⟨_, rfl⟩
  obtain ⟨q, hq⟩ : ∃ q, inN xs = q := ⟨_, rfl⟩
  rw [hib, hq] at hin
  rw [hib, hq] at hit
  rw [hib] at hil HPK
  rw [hib, hq]
  have HBD := Lib.hid hbd
  have HIT := Lib.hid (show q.total ≤ M by rw [← hil]; exact hit)
  have HCA := Lib.hid (fun (W : World) {k0 a0 : Int} {A1 : Option Addr} {n1 c1 : Nat} {f : Bool} {A2 : Option Addr} {c2 : Nat} (hS : SlR W A2 M c2 ib) => tcar_any (k0 := k0) (a0 := a0) (A1 := A1) (n1 := n1) (c1 := c1) (p := p) (f := f) (show M ≤ 1000000 by have := HBD.out; omega) W hS)
  unfold IpGave at HCA
  rw [← hin] at HCA
  have HPR := Lib.hid (show q.e = 0 → p = 4 ∨ p = 41 from fun h => by
    by_cases hp4 : p = 4 ∨ p = 41
    · exact hp4
    · rw [hin, ntP_x hp4] at h; cases h)
  obtain ⟨kd, hkd⟩ : ∃ k, tyP p = k := ⟨_, rfl⟩
  rw [hkd] at HCA ⊢
  have hkv : q.e = 0 → kd = 2048 ∨ kd = 34525 := fun h => by
    rw [← hkd]
    rcases HPR.out h with rfl | rfl
    · exact .inl rfl
    · exact .inr rfl
  have HLK := Lib.hid (fun (h : q.e = 0) W A n cap hT => tlink_any H6.out (A := A) (n := n) (cap := cap) (right_ty hrt (hkv h)) W hT)
  have HLT := Lib.hid (show 14 ≤ (lkB { L with ty := kd }).length ∧ (lkB { L with ty := kd }).length ≤ 22 by
    have h2 : L.ts.length ≤ 2 := (right_parts hrt).1
    have e : (lkB { L with ty := kd }).length = 14 + 4 * L.ts.length := lkB_len (six_ty H6.out _)
    rw [e]
    omega)
  obtain ⟨lb, hlb⟩ : ∃ l, lkB { L with ty := kd } = l := ⟨_, rfl⟩
  rw [hlb] at HLK HLT ⊢
  obtain ⟨ll, hll⟩ : ∃ k, lb.length = k := ⟨_, rfl⟩
  have HLL := Lib.hid hll
  rw [hll] at HLT
  obtain ⟨U, hU⟩ : ∃ U, q.total = U := ⟨_, rfl⟩
  have HU := Lib.hid hU
  rw [hU] at HIT ⊢
  obtain ⟨bq, hbq⟩ : ∃ b, decide (q.e = 0) = b := ⟨_, rfl⟩
  have HBQ := Lib.hid hbq
  rw [hbq] at HCA ⊢
  clear hPK h0 hI hF h6 hL hn hT hM hp ha hty hfr hrt hbd hin hit hil hib hq hkd hkv hlb hll hU hbq
  go_enter Try.func13, Try.ntmps13
  go_wp2_with fail
  refine HPK.out.mono ?_
  rintro e w1 ⟨hx, hz, hb1⟩
  obtain ⟨At, mt, ct, A1, c1, A2, c2, rfl, hown, hs1, hs2⟩ := hz N0.out
  have HB1 := Lib.hid hb1
  have HTA := Lib.hid hown
  have HSL := Lib.hid hs2
  clear hb1 hx hz hown hs1 hs2 HPK
  go_upto_region 4 with (first
    | ((with_reducible show wpList _ _ _ (⟨none, .store 41 (.tmp 4) (.tmp 11), _, _, _, _⟩ :: _) _ _); refine wpList_storeNew2 (op := ⟨none, .store 41 (.tmp 4) (.tmp 11), _, _, _, _⟩) rfl 41 54 _ _ rfl (by rfl) (lkL L (.slice At mt ct)) (by rfl) (by rw [lkL_len H6.out]; rfl) (sizeLkL H6.out _) (lkL_one L _ rfl) ?_; intro w2 hl2 hi2 hb2; have HK2 := Lib.hid hl2; have HI2 := Lib.hid (show Blk w2 54 (w1.heap.size + 1) ip0 from hi2); have HB2 := Lib.hid (HB1.out.trans (hb2.mono HB1.out.size)); have HG := Lib.hid HB1.out.size; have HTA2 := Lib.hid (HTA.out.below hb2); have HLTA := Lib.hid (fun g hg => (HTA.out.lt g hg).2); clear hl2 hi2 hb2; generalize w1.heap.size = G at HK2 HI2 HG HLTA ⊢)
    | ((with_reducible show wpList _ _ _ (⟨none, .store 54 (.tmp 5) (.tmp 12), _, _, _, _⟩ :: _) _ _); refine wpList_storeRG rfl 54 (.tmp 5) _ rfl (G + 1) (by rfl) (ipL ty (a : Int) (.slice A1 T c1) (.slice A2 M c2) (p : Int) false) (by rfl) _ HI2.out rfl sizeIp (ipL_one _ _ _ _ _ _ _ _ _ _) ?_; intro w3 hi3 hn3 hb3; have HI3 := Lib.hid hi3; have HK3 := Lib.hid (show Blk w3 41 G _ from (hn3 _ (Nat.ne_of_lt (Nat.lt_succ_self _))).trans HK2.out); have HB3 := Lib.hid (HB2.out.trans (hb3.mono (Nat.le_succ_of_le HG.out))); have HTA3 := Lib.hid (HTA2.out.kept (gb_of hn3 hb3) (own_ne (fun g hg => Nat.lt_succ_of_lt (HLTA.out g hg)))); have e5 := Blk_10.cell HI3.out (i := 5) (v := .bool false) rfl; clear hi3 hn3 hb3))
  clear e5
  go_wp2_with (((with_reducible show wpList _ _ _ (⟨some 21, _, _, _, _, _⟩ :: _) _ _); refine wpList_loadM (op := ⟨some 21, _, _, _, _, _⟩) 54 _ rfl (by rfl) (G + 1) 0 (by rfl) (ipL ty (a : Int) (.slice A1 T c1) (.slice A2 M c2) (p : Int) false) (Blk_10.range HI3.out) _ Try.underlying54 rfl sizeIp ?_))
  refine (HCA.out _ (HSL.out.below HB3.out)).mono ?_
  rintro e w4 ⟨rfl, hb4⟩
  have HB4 := Lib.hid (HB3.out.trans (hb4.mono HB3.out.size))
  have HK4 := Lib.hid (HK3.out.below HK3.out.lt hb4)
  have HTA4 := Lib.hid (HTA3.out.below hb4)
  clear hb4
  cases bq with
  | true =>
    have hq0 : q.e = 0 := of_decide_eq_true HBQ.out
    have hipv : ipV kd (p : Int) A2 c2 q = ipL kd (p : Int) (.slice A2 q.total c2) (.slice (cutA A2 c2 q.head) (q.total - q.head) (c2 - q.head)) (q.proto : Int) q.frag := if_pos hq0
    rw [hipv, HU.out]
    have HLK := Lib.hid (HLK.out hq0)
    obtain ⟨V, hV⟩ : ∃ V, U - q.head = V := ⟨_, rfl⟩
    obtain ⟨A3, hA3⟩ : ∃ A3, cutA A2 c2 q.head = A3 := ⟨_, rfl⟩
    obtain ⟨c3, hc3⟩ : ∃ c3, c2 - q.head = c3 := ⟨_, rfl⟩
    obtain ⟨p2, hp2⟩ : ∃ p2, q.proto = p2 := ⟨_, rfl⟩
    obtain ⟨f2, hf2⟩ : ∃ f2, q.frag = f2 := ⟨_, rfl⟩
    rw [hV, hA3, hc3, hp2, hf2]
    have HSI := Lib.hid (fun (W : World) (hW : Below w.heap.size w W) => show SlR W A2 U c2 (ib.take U) from ⟨Nat.le_trans HIT.out HSL.out.h1, HSL.out.h2, ((HSL.out.below hW).r).take HIT.out⟩)
    have HCC := Lib.hid (fun (W : World) (hW : Below w.heap.size w W) (A4 : Option Addr) (c4 : Nat) (hO : Own8 W w.heap.size (.slice A4 ll c4) lb) => concat2b W (hO.rdN HLL.out).2.2 (HSI.out W hW).r (hO.rdN HLL.out).1 (HSI.out W hW).h1 (hO.rdN HLL.out).2.1 (HSI.out W hW).h2 (by have := HLT.out; omega) (by have := HLT.out; have := HIT.out; have := HBD.out; omega))
    clear hq0 hipv hV hA3 hc3 hp2 hf2
    go_upto_region 7 with (((with_reducible show wpList _ _ _ (⟨none, .store 54 (.tmp 7) (.tmp 23), _, _, _, _⟩ :: _) _ _); refine wpList_storeNewG (op := ⟨none, .store 54 (.tmp 7) (.tmp 23), _, _, _, _⟩) rfl 54 _ _ rfl (by rfl) (ipL kd (p : Int) (.slice A2 U c2) (.slice A3 V c3) (p2 : Int) f2) (by rfl) (by rfl) sizeIp (ipL_one _ _ _ _ _ _ _ _ _ _) ?_; intro w5 hi5 hb5 hz5; clear hz5; have HB5 := Lib.hid (HB4.out.trans (hb5.mono HB4.out.size)); have HK5 := Lib.hid (HK4.out.below HK4.out.lt hb5); have HTA5 := Lib.hid (HTA4.out.below hb5); have HI5 := Lib.hid hi5; clear hi5 hb5; generalize w4.heap.size = G5 at HI5 ⊢))
    have HTG := Lib.hid (fun (W : World) (hW : Below w5.heap.size w5 W) => show TagsAt W W.heap.size At mt L.ts from tags_of (HTA5.out.below hW))
    refine wp_region_held_drew (S := fun W => Below w5.heap.size w5 W) (by kernel_rfl) ((Below.refl _ _).drew) (fun hHeld => ?_)
    obtain ⟨X, hX⟩ : ∃ X, w5.drew = X := ⟨_, rfl⟩
    rw [hX] at hHeld ⊢
    clear hX
    refine tkY 0 27 (lkC L (.slice At mt ct)) rfl (yieldsIf_load_mid (by rfl) 41 _ rfl G 0 rfl (lkL L (.slice At mt ct)) _ (fun W hW => Blk_10.range (HK5.out.below HK5.out.lt hW)) Try.underlying41 rfl (sizeLkL H6.out _)) hHeld ?_
    simp only [Act.put, sA, sZ, sS]
    refine tk 1 28 (.pointer (some ⟨G5, 0, none⟩)) rfl hHeld ?_
    simp only [Act.put, sA, sZ, sS]
    refine tkY 2 29 (.int .i64 kd) rfl (Or.inl ⟨by rfl, fun W hW => by have hc := Blk_10.cell (HI5.out.below HI5.out.lt hW) (i := 0) (v := .int .i64 kd) rfl; go_simp⟩) hHeld ?_
    simp only [Act.put, sA, sZ, sS]
    refine tk 4 31 (.pointer (some ⟨G5, 2, none⟩)) rfl hHeld ?_
    simp only [Act.put, sA, sZ, sS]
    refine tkY 5 32 (.slice A2 U c2) rfl (Or.inl ⟨by rfl, fun W hW => by have hc := Blk_10.cell (HI5.out.below HI5.out.lt hW) (i := 2) (v := .slice A2 U c2) rfl; go_simp⟩) hHeld ?_
    simp only [Act.put, sA, sZ, sS]
    refine wpAnyH_ready (rs := [3]) (by kernel_rfl) (by simp) (AllReadyH.cons (o := ⟨some 30, _, _, _, _, _⟩) rfl (fun K hK => ?_) AllReadyH.nil)
    go_simp
    refine (HLK.out _ At mt ct (HTG.out _ hHeld)).mono ?_
    rintro e w7 ⟨v7, rfl, ho7, hb7⟩
    obtain ⟨A7, c7, rfl, _, _, _⟩ := ho7.formN HLL.out
    have HO7 := Lib.hid (ho7.base_le (Nat.le_trans HB5.out.size hHeld.size))
    refine hK.out _ _ (hHeld.trans (hb7.mono hHeld.size)) (fun hHeld => ?_)
    clear hK K hb7 ho7
    have HBX := Lib.hid hHeld
    have HCD := Lib.hid (HCC.out _ (HB5.out.trans (hHeld.mono HB5.out.size)) A7 c7 HO7.out)
    refine wpAnyH_ready (rs := [6]) (by kernel_rfl) (by simp) (AllReadyH.cons (o := ⟨some 33, _, _, _, _, _⟩) rfl (fun K hK => ?_) AllReadyH.nil)
    go_simp
    refine hK.out _ _ (hHeld.alloc hHeld.size _) (fun hHeld => ?_)
    clear hK K 
    refine wpAnyH_ready (rs := [7]) (by kernel_rfl) (by simp) (AllReadyH.cons (o := ⟨some 34, _, _, _, _, _⟩) rfl (fun K hK => ?_) AllReadyH.nil)
    go_simp
    refine HCD.out.mono ?_
    rintro e w8 ⟨v8', rfl, ho8, hb8⟩
    have HB8 := Lib.hid (HBX.out.trans (hb8.mono HBX.out.size))
    have HO8 := Lib.hid (ho8.base_le HBX.out.size)
    obtain ⟨l8, hl8⟩ : ∃ k, (lb ++ ib.take U).length = k := ⟨_, rfl⟩
    obtain ⟨A8, c8, rfl, _, _, _⟩ := ho8.formN hl8
    refine hK.out _ _ (HB8.out) (fun hHeld => ?_)
    clear hK K hb8 ho8 hl8
    refine tk 8 2 (.slice A8 l8 c8) rfl hHeld ?_
    simp only [Act.put, sA, sZ, sS]
    refine tk 9 3 (.int .i64 0) rfl hHeld ?_
    simp only [Act.put, sA, sZ, sS]
    refine wpAnyH_done (by kernel_rfl) ?_ _
    go_wp2_with fail
    go_ret2
    first
      | exact ⟨fun _ => ⟨_, rfl, HO8.out.base_le HB5.out.size⟩, fun h => (by cases h), HB5.out.trans (HB8.out.mono HB5.out.size)⟩
      | exact ⟨⟨_, rfl, HO8.out.base_le HB5.out.size⟩, HB5.out.trans (HB8.out.mono HB5.out.size)⟩
  | false =>
    have hipv : ipV kd (p : Int) A2 c2 q = ip0 := if_neg (of_decide_eq_false HBQ.out)
    rw [hipv]
    clear hipv
    go_wp2_with (((with_reducible show wpList _ _ _ (⟨none, .store 54 (.tmp 7) (.tmp 23), _, _, _, _⟩ :: _) _ _); refine wpList_storeNewG (op := ⟨none, .store 54 (.tmp 7) (.tmp 23), _, _, _, _⟩) rfl 54 _ _ rfl (by rfl) ip0 (by rfl) (by rfl) sizeIp ip0_one ?_; intro w5 hi5 hb5 hz5; clear hz5 hi5; have HB5 := Lib.hid (HB4.out.trans (hb5.mono HB4.out.size)); clear hb5))
    go_ret2
    first
      | exact ⟨fun h => (by cases h), fun _ => rfl, HB5.out⟩
      | exact ⟨rfl, HB5.out⟩
/-- tunnel.Unwrap -/
theorem tunw_any (A : Option Addr) (len cap : Nat) (xs : List UInt8) (hlen : len ≤ 900000) (hcap : len ≤ cap) (hcm : cap ≤ maxLen) (w : World) (hI : Rd w w.heap.size A len xs) :
    Calls Try.prog 13 #[.slice A len cap] w (UwGave w xs) := by
  by_cases h0 : (fN xs).e = 0
  · cases hfr : (fN xs).frag with
    | false => exact tunw_yes A len cap xs hlen hcap hcm h0 hfr w hI
    | true =>
      refine (tunw_frag A len cap xs hlen hcap hcm h0 hfr w hI).mono ?_
      rintro e w' ⟨rfl, hb⟩
      have hub : unB xs = false := by unfold unB; rw [hfr]; simp
      exact ⟨fun h => absurd (hub.symm.trans h) (by decide), fun _ => rfl, hb⟩
  · refine (tunw_no A len cap xs hlen hcap hcm h0 w hI).mono ?_
    rintro e w' ⟨rfl, hb⟩
    have hub : unB xs = false := by unfold unB; rw [decide_eq_false h0]; rfl
    exact ⟨fun h => absurd (hub.symm.trans h) (by decide), fun _ => rfl, hb⟩
end Go.Proofs.Ytomkfcpellcncaa
