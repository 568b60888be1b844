/-
  PROVED HERE: 'TunnelBackSaid': whatever bytes frame and more, and addresses a, b, c and d are, the Go function TunnelBack of package wayleavelaw13 returns true, and its arguments read behind the call as they read before. No condition.
-/
import Derived.Deep.DeepCutAuto
import Derived.Test.YtomkfcpellcncaaTSup
import Derived.Test.YtomkfcpellcncaaTAwake
import Derived.Test.YtomkfcpellcncaaTRNet
import Derived.Test.YtomkfcpellcncaaTRWrap
namespace Go.Proofs.Ytomkfcpellcncaa
set_option maxRecDepth 100000
open Go.RowKit Go.Lib Go.ChangeShapes Go.WideShapes Go.ChangeAt

theorem box4 (w : World) (c0 c1 c2 c3 : List Value) (T : TypeId) : ∃ Y : World, (((w.alloc (.cells c0.toArray T)).alloc (.cells c1.toArray T)).alloc (.cells c2.toArray T)).alloc (.cells c3.toArray T) = Y ∧ Blk Y T w.heap.size c0 ∧ Blk Y T (w.heap.size + 1) c1 ∧ Blk Y T (w.heap.size + 1 + 1) c2 ∧ Blk Y T (w.heap.size + 1 + 1 + 1) c3 ∧ Below w.heap.size w Y := by
  have h0 := Blk_10.new w T c0
  have h1 := Blk_10.new (w.alloc (.cells c0.toArray T)) T c1
  have h2 := Blk_10.new ((w.alloc (.cells c0.toArray T)).alloc (.cells c1.toArray T)) T c2
  have h3 := Blk_10.new (((w.alloc (.cells c0.toArray T)).alloc (.cells c1.toArray T)).alloc (.cells c2.toArray T)) T c3
  simp only [World.size_alloc] at h1 h2 h3
  exact ⟨_, rfl, ((h0.alloc _).alloc _).alloc _, (h1.alloc _).alloc _, h2.alloc _, h3, ((((Below.refl w.heap.size w).alloc (Nat.le_refl _) _).alloc (by simp) _).alloc (by simp; omega) _).alloc (by simp; omega) _⟩
theorem back_math {xs more : List UInt8} {a b c d : Ad} (ha : a.b.length = 16) (hb : b.b.length = 16) (hc : c.b.length = 16) (hd : d.b.length = 16) (h : wrapE xs a b = 0) (hl : xs.length ≤ 3000) :
    (wrapE (wrapL xs a b ++ more) c d = 0 ∨ wrapE (wrapL xs a b ++ more) c d = 1) ∧
    (wrapE (wrapL xs a b ++ more) c d = 0 → unB (wrapL (wrapL xs a b ++ more) c d ++ more) = true ∧ unL (wrapL (wrapL xs a b ++ more) c d ++ more) = wrapL xs a b ∧ (wrapL (wrapL xs a b ++ more) c d).length ≤ 4000) ∧
    unB (wrapL xs a b) = true ∧ unL (wrapL xs a b) = xs.take (atK xs + (fN xs).total) ∧ (wrapL xs a b).length ≤ 3100 := by
  obtain ⟨h0, hf, hm⟩ := wrapE_zero h
  have hF := frame_of h0
  obtain ⟨e1, e2, e3, e4⟩ := wrap_read ha hb h more
  have hlen := wrapL_len ha hb h0
  have hT := hF.h2
  have hk : ∀ z : Ad, lenT z ≤ 40 := fun z => by unfold lenT; split <;> omega
  have hms : ∀ z : Ad, 65515 ≤ mostT z := fun z => by unfold mostT; split <;> omega
  have hka := hk a
  have hkc := hk c
  have hmc := hms c
  have hp := hF.p1
  have back := wrap_back ha hb h []
  rw [List.append_nil] at back
  refine ⟨?_, fun h2 => ?_, back.1, back.2, by omega⟩
  · unfold wrapE
    rw [e3]
    show (if (0 : Nat) ≠ 0 then 3 else if famB c d = false then 1 else if mostT c < lenT a + (fN xs).total then 4 else 0) = 0 ∨ _
    rw [if_neg (by omega)]
    by_cases hq : famB c d = false
    · right; exact if_pos hq
    · left; rw [if_neg hq, if_neg (by omega)]
  · obtain ⟨b1, b2⟩ := wrap_back hc hd h2 more
    have hl2 := wrapL_len (xs := wrapL xs a b ++ more) hc hd (wrapE_zero h2).1
    rw [e2, e3] at b2 hl2
    refine ⟨b1, b2.trans ?_, ?_⟩
    · show (wrapL xs a b ++ more).take (atK xs + (lenT a + (fN xs).total)) = _
      rw [← hlen, List.take_left]
    · rw [hl2]
      show atK xs + (lenT c + (lenT a + (fN xs).total)) ≤ 4000
      omega
set_option maxHeartbeats 32000000 in
theorem tunnelBack_walk (A : Option Addr) (len cap : Nat) (xs : List UInt8) (hca : len ≤ cap) (hma : cap ≤ maxLen) (a : Ad) (ha : a.b.length = 16) (b : Ad) (hb : b.b.length = 16) (c : Ad) (hc : c.b.length = 16) (d : Ad) (hd : d.b.length = 16)
    (A5 : Option Addr) (len5 cap5 : Nat) (ms : List UInt8) (hca5 : len5 ≤ cap5) (hma5 : cap5 ≤ maxLen) (w : World) (hI : Rd w w.heap.size A len xs) (hI5 : Rd w w.heap.size A5 len5 ms) :
    Calls Try.prog 5 #[.slice A len cap, adC a, adC b, adC c, adC d, .slice A5 len5 cap5] w fun e w' => e = .returned (.bool true) ∧ Below w.heap.size w w' := by
  have hml : len ≤ 9223372036854775807 := by unfold maxLen at hma; omega
  have hml5 : len5 ≤ 9223372036854775807 := by unfold maxLen at hma5; omega
  obtain ⟨Y, hY, h0, h1, h2, h3, hbel⟩ := box4 w (adL a) (adL b) (adL c) (adL d) 25
  have HXL := Lib.hid hI.len
  have HRX := Lib.hid (fun W (hB : Below w.heap.size w W) => (hI.below hB).more hB.size)
  have HRM := Lib.hid (fun W (hB : Below w.heap.size w W) => (hI5.below hB).more hB.size)
  have HPF := Lib.hid (fun (k : Nat) (hk : k ≤ len) (W : World) (hB : Below w.heap.size w W) => ((hI.take hk).below hB).more hB.size)
  have HRR := Lib.hid (fun (p : Nat) (hp : p ≤ len) => hI.from (l := p) hp cap hca)
  have HCA := Lib.hid hca
  have HMA := Lib.hid hma
  have HLA := Lib.hid ha
  have HLB := Lib.hid hb
  have HLC := Lib.hid hc
  have HLD := Lib.hid hd
  have HQ0 := Lib.hid h0
  have HQ1 := Lib.hid h1
  have HQ2 := Lib.hid h2
  have HQ3 := Lib.hid h3
  have HB := Lib.hid hbel
  obtain ⟨C0, hC0⟩ : ∃ C, (adL a).toArray = C := ⟨_, rfl⟩
  obtain ⟨C1, hC1⟩ : ∃ C, (adL b).toArray = C := ⟨_, rfl⟩
  obtain ⟨C2, hC2⟩ : ∃ C, (adL c).toArray = C := ⟨_, rfl⟩
  obtain ⟨C3, hC3⟩ : ∃ C, (adL d).toArray = C := ⟨_, rfl⟩
  have E0 := Lib.hid (show adC a = .agg C0 by rw [← hC0]; rfl)
  have E1 := Lib.hid (show adC b = .agg C1 by rw [← hC1]; rfl)
  have E2 := Lib.hid (show adC c = .agg C2 by rw [← hC2]; rfl)
  have E3 := Lib.hid (show adC d = .agg C3 by rw [← hC3]; rfl)
  rw [E0.out, E1.out, E2.out, E3.out]
  rw [hC0, hC1, hC2, hC3] at hY
  have HC0 := Lib.hid hC0
  have HC1 := Lib.hid hC1
  have HC2 := Lib.hid hC2
  have HC3 := Lib.hid hC3
  have HY := Lib.hid hY
  clear hI hI5 hY h0 h1 h2 h3 hbel hC0 hC1 hC2 hC3 ha hb hc hd hca hma hca5 hma5
  go_enter Try.func5, Try.ntmps5
  go_wp2_with fail
  rw [HY.out]
  refine (awake_any _).mono ?_
  rintro e w1 ⟨rfl, hb1⟩
  have BY1 := Lib.hid hb1
  have HB1 := Lib.hid (HB.out.trans (hb1.mono HB.out.size))
  clear hb1
  by_cases hn : 3000 < len
  · have hn' : (3000 : Int) < (len : Int) := by omega
    have hnb : decide ((3000 : Int) < (len : Int)) = true := decide_eq_true hn'
    clear hn
    go_wp2_with fail
    refine (awake_any _).mono ?_
    rintro e w2 ⟨rfl, hb2⟩
    go_wp2_with fail
    go_ret
    exact ⟨rfl, HB1.out.trans (hb2.mono HB1.out.size)⟩
  have hn' : ¬ (3000 : Int) < (len : Int) := by omega
  have hnb : decide ((3000 : Int) < (len : Int)) = false := decide_eq_false hn'
  have HN1 := Lib.hid (show len ≤ 3000 by omega)
  clear hn
  by_cases hm : 300 < len5
  · have hm' : (300 : Int) < (len5 : Int) := by omega
    have hmb : decide ((300 : Int) < (len5 : Int)) = true := decide_eq_true hm'
    clear hm
    go_wp2_with fail
    refine (awake_any _).mono ?_
    rintro e w2 ⟨rfl, hb2⟩
    go_wp2_with fail
    go_ret
    exact ⟨rfl, HB1.out.trans (hb2.mono HB1.out.size)⟩
  have hm' : ¬ (300 : Int) < (len5 : Int) := by omega
  have hmb : decide ((300 : Int) < (len5 : Int)) = false := decide_eq_false hm'
  have HN5 := Lib.hid (show len5 ≤ 300 by omega)
  clear hm
  have TW := Lib.hid (fun W (h : Below w.heap.size w W) => E1.out ▸ E0.out ▸ twrap_any A len cap xs HLA.out HLB.out (by have := HN1.out; omega) HCA.out HMA.out W (HRX.out W h))
  obtain ⟨E, hE⟩ : ∃ E, wrapE xs a b = E := ⟨_, rfl⟩
  have HE := Lib.hid hE
  clear hE
  go_wp2_with (first
    | ((with_reducible show wpList _ _ _ (⟨some 43, _, _, _, _, _⟩ :: _) _ _); refine wpList_loadM (op := ⟨some 43, _, _, _, _, _⟩) 25 _ rfl (by rfl) w.heap.size 0 (by rfl) (adL a) (Blk_10.range (HQ0.out.below HQ0.out.lt BY1.out)) _ Try.underlying25 rfl (sizeAdL HLA.out) ?_; rw [HC0.out])
    | ((with_reducible show wpList _ _ _ (⟨some 44, _, _, _, _, _⟩ :: _) _ _); refine wpList_loadM (op := ⟨some 44, _, _, _, _, _⟩) 25 _ rfl (by rfl) (w.heap.size + 1) 0 (by rfl) (adL b) (Blk_10.range (HQ1.out.below HQ1.out.lt BY1.out)) _ Try.underlying25 rfl (sizeAdL HLB.out) ?_; rw [HC1.out]))
  refine (TW.out _ HB1.out).mono ?_
  rintro e w2 ⟨hy, hno, hb2⟩
  rw [HE.out] at hy hno
  have BY2 := Lib.hid (BY1.out.trans (hb2.mono BY1.out.size))
  have HB2 := Lib.hid (HB1.out.trans (hb2.mono HB1.out.size))
  clear hn' hnb hm' hmb
  by_cases h0 : E = 0
  case neg =>
    obtain rfl := hno h0
    have bE : ((E : Int) == 0) = false := beq_eq_false_iff_ne.2 (by omega)
    have bE2 : (E == 0) = false := beq_eq_false_iff_ne.2 h0
    have bE3 : ((E : Int) != 0) = true := by simp; omega
    clear hy hno hb2 h0
    go_wp2_with fail
    go_ret
    exact ⟨rfl, HB2.out⟩
  obtain ⟨v, rfl, ho⟩ := hy h0
  have h00 : wrapE xs a b = 0 := HE.out.trans h0
  have hM := back_math (more := ms) HLA.out HLB.out HLC.out HLD.out h00 (by rw [HXL.out]; exact HN1.out)
  have hF := frame_of (wrapE_zero h00).1
  obtain ⟨X, hX⟩ : ∃ X, wrapL xs a b = X := ⟨_, rfl⟩
  rw [hX] at hM ho
  obtain ⟨lx, hlx⟩ : ∃ k, X.length = k := ⟨_, rfl⟩
  obtain ⟨Ax, cx, rfl, _, _, _⟩ := ho.formN hlx
  have HX := Lib.hid ho
  have HLX := Lib.hid hlx
  have HMM := Lib.hid hM
  have HFF := Lib.hid hF
  have HLB3 := Lib.hid (show lx ≤ 3100 by rw [← hlx]; exact hM.2.2.2.2)
  clear hy hno hb2 h0 h00 hM hF hX hlx ho TW
  have HXR := Lib.hid (fun W (h : Below w2.heap.size w2 W) => ((HX.out.below h).rdN HLX.out).2.2)
  go_upto_region 6 with (fail)
  refine wp_region_held_drew (S := fun W => Below w2.heap.size w2 W) (by kernel_rfl) ((Below.refl _ _).drew) (fun hHeld => ?_)
  obtain ⟨V, hV⟩ : ∃ V, w2.drew = V := ⟨_, rfl⟩
  rw [hV] at hHeld ⊢
  clear hV
  refine tk 1 55 (.slice Ax lx cx) rfl hHeld ?_
  simp only [Act.put, sA, sZ, sS]
  refine tk 3 57 (.slice A5 len5 cap5) rfl hHeld ?_
  simp only [Act.put, sA, sZ, sS]
  refine tkY 5 59 (.agg (adL c).toArray) rfl (yieldsIf_load_mid (by rfl) 25 _ (by rfl) (w.heap.size + 1 + 1) 0 rfl (adL c) _ (fun W hW => Blk_10.range (HQ2.out.below HQ2.out.lt (BY2.out.trans (hW.mono BY2.out.size)))) Try.underlying25 rfl (sizeAdL HLC.out)) hHeld ?_
  simp only [Act.put, sA, sZ, sS]
  rw [HC2.out]
  refine tkY 6 60 (.agg (adL d).toArray) rfl (yieldsIf_load_mid (by rfl) 25 _ (by rfl) (w.heap.size + 1 + 1 + 1) 0 rfl (adL d) _ (fun W hW => Blk_10.range (HQ3.out.below HQ3.out.lt (BY2.out.trans (hW.mono BY2.out.size)))) Try.underlying25 rfl (sizeAdL HLD.out)) hHeld ?_
  simp only [Act.put, sA, sZ, sS]
  rw [HC3.out]
  refine wpAnyH_ready (rs := [0]) (by kernel_rfl) (by simp) (AllReadyH.cons (o := ⟨some 54, _, _, _, _, _⟩) rfl (fun K hK => ?_) AllReadyH.nil)
  go_simp
  have HEE := Lib.hid (empty8 (base := w2.heap.size) V hHeld.size)
  have HH := Lib.hid (hHeld.alloc hHeld.size (.cells #[] 5))
  generalize V.alloc (.cells #[] 5) = z1 at HEE HH ⊢
  generalize V.heap.size = g0 at HEE ⊢
  refine hK.out _ _ (HH.out) (fun hHeld => ?_)
  clear hK K 
  refine wpAnyH_ready (rs := [2]) (by kernel_rfl) (by simp) (AllReadyH.cons (o := ⟨some 56, _, _, _, _, _⟩) rfl (fun K hK => ?_) AllReadyH.nil)
  refine step_append8 rfl (.tmp 54) (.tmp 55) rfl w2.heap.size _ [] (by rfl) HEE.out _ Ax lx cx X (by rfl) (HXR.out _ HH.out) (by have := HLB3.out; rw [List.length_nil]; omega) HH.out.size ?_
  intro v7 z2 ho7 hg7
  rw [List.nil_append] at ho7
  have HH7 := Lib.hid (HH.out.grown hg7 HH.out.size HEE.out.lt)
  have HO := Lib.hid ho7
  refine hK.out _ _ (HH7.out) (fun hHeld => ?_)
  clear hK K ho7 hg7
  refine wpAnyH_ready (rs := [4]) (by kernel_rfl) (by simp) (AllReadyH.cons (o := ⟨some 58, _, _, _, _, _⟩) rfl (fun K hK => ?_) AllReadyH.nil)
  refine step_append8 rfl (.tmp 56) (.tmp 57) rfl w2.heap.size _ X (by rfl) HO.out _ A5 len5 cap5 ms (by rfl) (HRM.out _ (HB2.out.trans (HH7.out.mono HB2.out.size))) (by have := HLB3.out; have := HN5.out; rw [HLX.out]; omega) HH7.out.size ?_
  intro v8 z3 ho8 hg8
  have HH8 := Lib.hid (HH7.out.grown hg8 HH7.out.size HO.out.lt)
  obtain ⟨l8, hl8⟩ : ∃ k, (X ++ ms).length = k := ⟨_, rfl⟩
  have HL8 := Lib.hid (show l8 ≤ 3400 by have := HLB3.out; have := HN5.out; have := (HRM.out _ (HB2.out.trans (HH7.out.mono HB2.out.size))).len; rw [← hl8, List.length_append, HLX.out]; omega)
  obtain ⟨A8, c8, rfl, h81, h82, hr8⟩ := ho8.formN hl8
  have TO := Lib.hid (E3.out ▸ E2.out ▸ twrap_any A8 l8 c8 (X ++ ms) HLC.out HLD.out (by have := HL8.out; omega) h81 h82 z3 hr8)
  refine hK.out _ _ (HH8.out) (fun hHeld => ?_)
  clear hK K ho8 hg8 hl8 h81 h82 hr8
  refine wpAnyH_ready (rs := [7]) (by kernel_rfl) (by simp) (AllReadyH.cons (o := ⟨some 61, _, _, _, _, _⟩) rfl (fun K hK => ?_) AllReadyH.nil)
  go_simp
  refine TO.out.mono ?_
  rintro e z4 ⟨hy, hno, hb4⟩
  have HH9 := Lib.hid (HH8.out.trans (hb4.mono HH8.out.size))
  obtain ⟨vy, F, hev, hyy⟩ : ∃ (v : Value) (F : Nat), e = .returned (.tuple #[v, .int .i64 (F : Int)]) ∧ (F = 0 ∧ wrapE (X ++ ms) c d = 0 ∧ Own8 z4 w2.heap.size v (wrapL (X ++ ms) c d) ∨ F = 1 ∧ v = .slice none 0 0) := by
    rcases HMM.out.1 with h | h
    · obtain ⟨v, e1, e2⟩ := hy h
      exact ⟨v, 0, e1, .inl ⟨rfl, h, e2.base_le HH8.out.size⟩⟩
    · have e1 := hno (by rw [h]; decide)
      rw [h] at e1
      exact ⟨_, 1, e1, .inr ⟨rfl, rfl⟩⟩
  subst hev
  have HYY := Lib.hid hyy
  refine hK.out _ _ (HH9.out) (fun hHeld => ?_)
  clear hK K hb4 hy hno hyy
  refine tk 8 53 (.tuple #[vy, .int .i64 (F : Int)]) rfl hHeld ?_
  simp only [Act.put, sA, sZ, sS]
  refine tk 9 62 vy rfl hHeld ?_
  simp only [Act.put, sA, sZ, sS]
  refine tk 10 63 (.int .i64 (F : Int)) rfl hHeld ?_
  simp only [Act.put, sA, sZ, sS]
  refine tk 11 15 vy rfl hHeld ?_
  simp only [Act.put, sA, sZ, sS]
  refine tk 12 16 (.int .i64 (F : Int)) rfl hHeld ?_
  simp only [Act.put, sA, sZ, sS]
  refine wpAnyH_done (by kernel_rfl) ?_ _
  have HB4 := Lib.hid (HB2.out.trans (HH9.out.mono HB2.out.size))
  have HX4 := Lib.hid (HX.out.below HH9.out)
  clear hHeld TO
  rcases HYY.out with ⟨rfl, hw0, hoy⟩ | ⟨rfl, rfl⟩
  case inr =>
    clear HYY
    go_wp2_with fail
    go_ret
    exact ⟨rfl, HB4.out⟩
  obtain ⟨b1, b2, b3⟩ := HMM.out.2.1 hw0
  obtain ⟨Yl, hYl⟩ : ∃ Yl, wrapL (X ++ ms) c d = Yl := ⟨_, rfl⟩
  rw [hYl] at b1 b2 b3 hoy
  obtain ⟨ly, hly⟩ : ∃ k, Yl.length = k := ⟨_, rfl⟩
  obtain ⟨Ay, cy, rfl, _, _, _⟩ := hoy.formN hly
  have HOY := Lib.hid hoy
  have HLY := Lib.hid hly
  have HYB := Lib.hid (show ly ≤ 4000 by rw [← hly]; exact b3)
  have HU1 := Lib.hid (show unB (Yl ++ ms) = true ∧ unL (Yl ++ ms) = X from ⟨b1, b2⟩)
  clear HYY hw0 hoy b1 b2 b3 hYl hly
  have HE4 := Lib.hid (empty8 (base := z4.heap.size) z4 (Nat.le_refl _))
  have HYR := Lib.hid ((HOY.out.rdN HLY.out).2.2.alloc (Nat.le_refl _) (.cells #[] 5))
  have HMR := Lib.hid (HRM.out z4 HB4.out)
  have LA := Lib.hid (show ([] : List UInt8).length + ly ≤ 2000000000 by have := HYB.out; rw [List.length_nil]; omega)
  have LM := Lib.hid (show Yl.length + len5 ≤ 2000000000 by have := HYB.out; have := HN5.out; rw [HLY.out]; omega)
  go_wp2_with (first
    | ((with_reducible show wpList _ _ _ (⟨some 76, _, _, _, _, _⟩ :: _) _ _); refine wpList_append8 (o := ⟨some 76, _, _, _, _, _⟩) rfl _ _ rfl z4.heap.size _ [] (by rfl) HE4.out _ Ay ly cy Yl (by rfl) HYR.out LA.out (by simp) ?_; intro v5 z5 ho5 hg5 hq5; clear hq5; rw [List.nil_append] at ho5; have e5 : Below z4.heap.size z4 z5 := ((Below.refl _ z4).alloc (Nat.le_refl _) (.cells #[] 5)).grown hg5 (by simp) HE4.out.lt; have HD5 := Lib.hid e5; have HO5 := Lib.hid ho5; clear ho5 hg5 e5)
    | ((with_reducible show wpList _ _ _ (⟨some 78, _, _, _, _, _⟩ :: _) _ _); refine wpList_append8 (o := ⟨some 78, _, _, _, _, _⟩) rfl _ _ rfl z4.heap.size _ Yl (by rfl) HO5.out _ A5 len5 cap5 ms (by rfl) (HMR.out.below HD5.out) LM.out HD5.out.size ?_; intro v6 z6 ho6 hg6 hq6; clear hq6; have HD6 := Lib.hid (HD5.out.grown hg6 HD5.out.size HO5.out.lt); obtain ⟨l6, hl6⟩ : ∃ k, (Yl ++ ms).length = k := ⟨_, rfl⟩; obtain ⟨A6, c6, e6v, h61, h62, hr6⟩ := ho6.formN hl6; subst e6v; have UO := Lib.hid (tunw_any A6 l6 c6 (Yl ++ ms) (by have := HYB.out; have := HN5.out; have := HMR.out.len; rw [← hl6, List.length_append, HLY.out]; omega) h61 h62 z6 hr6); clear ho6 hg6 hl6 h61 h62 hr6))
  refine UO.out.mono ?_
  rintro e z7 ⟨hy, _, hb7⟩
  obtain ⟨vz, rfl, hoz⟩ := hy HU1.out.1
  rw [HU1.out.2] at hoz
  obtain ⟨Az, cz, rfl, hz1, hz2, hzr⟩ := hoz.formN HLX.out
  have HB7 := Lib.hid (HB4.out.trans ((HD6.out.trans (hb7.mono HD6.out.size)).mono HB4.out.size))
  have HX7 := Lib.hid (HX4.out.below (HD6.out.trans (hb7.mono HD6.out.size)))
  have HOZ := Lib.hid hoz
  have UX := Lib.hid (tunw_any Az lx cz X (by have := HLB3.out; omega) hz1 hz2 z7 hzr)
  clear hy hb7 hoz hz1 hz2 hzr UO HD6 HD5 HO5
  go_wp2_with fail
  refine UX.out.mono ?_
  rintro e z8 ⟨hy, _, hb8⟩
  obtain ⟨vw, rfl, how⟩ := hy HMM.out.2.2.1
  rw [HMM.out.2.2.2.1] at how
  have HB8 := Lib.hid (HB7.out.trans (hb8.mono HB7.out.size))
  have HX8 := Lib.hid (HX7.out.below hb8)
  have HZ8 := Lib.hid (HOZ.out.below hb8)
  obtain ⟨p, hp⟩ : ∃ p, atK xs = p := ⟨_, rfl⟩
  obtain ⟨n, hnn⟩ : ∃ n, fN xs = n := ⟨_, rfl⟩
  obtain ⟨L, hL⟩ : ∃ L, (rdOf xs).1 = L := ⟨_, rfl⟩
  have hF := HFF.out
  rw [hp, hnn, hL] at hF
  rw [hp, hnn] at how
  obtain ⟨T, hT⟩ : ∃ T, n.total = T := ⟨_, rfl⟩
  have hPT := hF.h2
  rw [hT] at how hPT
  rw [HXL.out] at hPT
  have hlw : (xs.take (p + T)).length = p + T := by rw [List.length_take, HXL.out]; omega
  obtain ⟨Aw, cw, rfl, _, _, _⟩ := how.formN hlw
  have HOW := Lib.hid how
  have HLW := Lib.hid hlw
  have hRD := rread_any_7 A len cap xs (by have := HN1.out; omega) z8 (HRX.out z8 HB8.out)
  unfold ReadGave_7 at hRD
  rw [hF.r] at hRD
  have HRD := Lib.hid hRD
  have H6 := Lib.hid hF.six
  have a1 := hF.at_
  have a2 := hF.p2
  have a4 := hF.p1
  rw [HXL.out] at a2
  have HR0 := HRR.out p a2
  have hcut := fun W => run_from8 A len cap p a2 W
  obtain ⟨RA, hRA⟩ : ∃ R, cutA A cap p = R := ⟨_, rfl⟩
  obtain ⟨rl, hrl⟩ : ∃ n, len - p = n := ⟨_, rfl⟩
  obtain ⟨rc, hrc⟩ : ∃ n, cap - p = n := ⟨_, rfl⟩
  have hrcl : rl ≤ rc := by have := HCA.out; omega
  have hrll : rl ≤ 90000 := by have := HN1.out; omega
  rw [hRA, hrl, hrc] at hcut
  rw [hRA, hrl] at HR0
  have HR0 := Lib.hid HR0
  have HCUT := Lib.hid hcut
  have HTY := Lib.hid (fun tv => (lk_ty L H6.out tv).1)
  have HAT := Lib.hid (fun tv => show (lkL L tv)[14]? = some (.int .i64 (p : Int)) from a1 ▸ (lk_ty L H6.out tv).2)
  have HNT := Lib.hid (fun W (hB : Below w.heap.size w W) => rnet_any L.ty RA rl rc (xs.drop p) (by omega) hrcl W ((HR0.out.below hB).more hB.size))
  rw [hF.nk] at HNT
  unfold ntV at HNT
  rw [decide_eq_true hF.e, hT] at HNT
  obtain ⟨hh, hhd⟩ : ∃ T, n.head = T := ⟨_, rfl⟩
  obtain ⟨pr, hpr⟩ : ∃ T, n.proto = T := ⟨_, rfl⟩
  obtain ⟨fr, hfr⟩ : ∃ T, n.frag = T := ⟨_, rfl⟩
  obtain ⟨ty, hty⟩ : ∃ T, L.ty = T := ⟨_, rfl⟩
  rw [hhd, hpr, hfr, hty] at HNT
  rw [hty] at HTY
  have HUP := Lib.hid (fun W => run_upto8 A len cap (p + T) ((p : Int) + (T : Int)) (by omega) (by have := HCA.out; omega) W)
  have HWP := Lib.hid (show IntKind.i64.wrap ((p : Int) + (T : Int)) = (p : Int) + (T : Int) by rw [IntKind.wrap_i64]; have := HN1.out; omega)
  have HPT := Lib.hid (show p + T ≤ len from hPT)
  clear hy hb8 how hp hnn hL hF hT hPT hlw hRD a1 a2 a4 hcut hRA hrl hrc hrcl hrll hhd hpr hfr hty UX
  go_wp2_with fail
  refine HRD.out.mono ?_
  rintro e y1 ⟨tv, rfl, hown, hb1⟩
  obtain ⟨At, mt, ct, rfl, q1, q2, q3, q4, q5⟩ := hown.sl
  have HD1 := Lib.hid hb1
  clear hb1 hown q1 q2 q3 q4 q5
  go_upto_region 12 with (((with_reducible show wpList _ _ _ (⟨none, .store 41 (.tmp 21) (.tmp 90), _, _, _, _⟩ :: _) _ _); refine wpList_storeNewG (op := ⟨none, .store 41 (.tmp 21) (.tmp 90), _, _, _, _⟩) rfl 41 _ _ rfl (by rfl) (lkL L (.slice At mt ct)) (by rfl) (by rw [lkL_len H6.out]; rfl) (sizeLkL H6.out _) (lkL_one L _ rfl) ?_; intro y2 hl2 hb2 hz2; clear hz2; have HD2 := Lib.hid (HD1.out.trans (hb2.mono HD1.out.size)); have HK2 := Lib.hid hl2; clear hl2 hb2; generalize y1.heap.size = G at HK2 ⊢))
  have HBy2 := Lib.hid (HB8.out.trans (HD2.out.mono HB8.out.size))
  have HT13 := Lib.hid (fun W (hW : Below y2.heap.size y2 W) => Blk_10.cell (HK2.out.below HK2.out.lt hW) (HTY.out (.slice At mt ct)))
  have HT14 := Lib.hid (fun W (hW : Below y2.heap.size y2 W) => Blk_10.cell (HK2.out.below HK2.out.lt hW) (HAT.out (.slice At mt ct)))
  refine wp_region_held_drew (S := fun W => Below y2.heap.size y2 W) (by kernel_rfl) ((Below.refl _ _).drew) (fun hHeld => ?_)
  obtain ⟨V, hV⟩ : ∃ V, y2.drew = V := ⟨_, rfl⟩
  rw [hV] at hHeld ⊢
  clear hV
  refine tk 0 93 (.pointer (some ⟨G, 13, none⟩)) rfl hHeld ?_
  simp only [Act.put, sA, sZ, sS]
  refine tkY 1 94 (.int .i64 ty) rfl (Or.inl ⟨by rfl, fun W hW => by have hc := HT13.out W hW; go_simp⟩) hHeld ?_
  simp only [Act.put, sA, sZ, sS]
  refine tk 2 95 (.slice A len cap) rfl hHeld ?_
  simp only [Act.put, sA, sZ, sS]
  refine tk 3 96 (.pointer (some ⟨G, 14, none⟩)) rfl hHeld ?_
  simp only [Act.put, sA, sZ, sS]
  refine tkY 4 97 (.int .i64 (p : Int)) rfl (Or.inl ⟨by rfl, fun W hW => by have hc := HT14.out W hW; go_simp⟩) hHeld ?_
  simp only [Act.put, sA, sZ, sS]
  refine tkY 5 98 (.slice RA rl rc) rfl (Or.inl ⟨by rfl, fun W _ => by have hs := HCUT.out W; go_simp⟩) hHeld ?_
  simp only [Act.put, sA, sZ, sS]
  refine wpAnyH_ready (rs := [6]) (by kernel_rfl) (by simp) (AllReadyH.cons (o := ⟨some 99, _, _, _, _, _⟩) rfl (fun K hK => ?_) AllReadyH.nil)
  go_simp
  refine (HNT.out _ (HBy2.out.trans (hHeld.mono HBy2.out.size))).mono ?_
  rintro e y3 ⟨rfl, hb3⟩
  refine hK.out _ _ (hHeld.trans (hb3.mono hHeld.size)) (fun hHeld => ?_)
  clear hK K hb3
  refine tk 7 92 (.tuple #[.int .i64 (hh : Int), .int .i64 (T : Int), .int .i64 (pr : Int), .bool fr, .bool true]) rfl hHeld ?_
  simp only [Act.put, sA, sZ, sS]
  refine tk 8 100 (.int .i64 (hh : Int)) rfl hHeld ?_
  simp only [Act.put, sA, sZ, sS]
  refine tk 9 101 (.int .i64 (T : Int)) rfl hHeld ?_
  simp only [Act.put, sA, sZ, sS]
  refine tk 10 102 (.int .i64 (pr : Int)) rfl hHeld ?_
  simp only [Act.put, sA, sZ, sS]
  refine tk 11 103 (.bool fr) rfl hHeld ?_
  simp only [Act.put, sA, sZ, sS]
  refine tk 12 104 (.bool true) rfl hHeld ?_
  simp only [Act.put, sA, sZ, sS]
  refine tk 13 23 (.int .i64 (hh : Int)) rfl hHeld ?_
  simp only [Act.put, sA, sZ, sS]
  refine tk 14 24 (.int .i64 (T : Int)) rfl hHeld ?_
  simp only [Act.put, sA, sZ, sS]
  refine tk 15 25 (.int .i64 (pr : Int)) rfl hHeld ?_
  simp only [Act.put, sA, sZ, sS]
  refine tk 16 26 (.bool fr) rfl hHeld ?_
  simp only [Act.put, sA, sZ, sS]
  refine tk 17 27 (.bool true) rfl hHeld ?_
  simp only [Act.put, sA, sZ, sS]
  refine wpAnyH_done (by kernel_rfl) ?_ _
  have HD3 := Lib.hid (HD2.out.trans (hHeld.mono HD2.out.size))
  have HB9 := Lib.hid (HB8.out.trans (HD3.out.mono HB8.out.size))
  have at3 := HT14.out _ hHeld
  have hup := HUP.out
  have hwp := HWP.out
  have S1 := Lib.hid (same_any y3 cz cx ((HZ8.out.below HD3.out).rdN HLX.out).2.2 ((HX8.out.below HD3.out).rdN HLX.out).2.2)
  have S2 := Lib.hid (same_any y3 cw cap ((HOW.out.below HD3.out).rdN HLW.out).2.2 (HPF.out (p + T) HPT.out y3 HB9.out))
  clear hHeld HT13 HT14
  go_wp2_with fail
  refine S1.out.mono ?_
  rintro e w' ⟨rfl, rfl⟩
  go_wp2_with fail
  refine S2.out.mono ?_
  rintro e w' ⟨rfl, rfl⟩
  go_wp2_with fail
  go_ret
  exact ⟨rfl, HB9.out⟩

theorem tunnelBack_walks : WalksTrue 5 Try.f5 := by
  intro H enc W base args ds p hval hA
  rw [Try.params5] at hA hval
  obtain ⟨v0, vs0, d0, ds0, p0, q0, hargs, rfl, rfl, h0, r0⟩ := trodAll_cons hA
  obtain ⟨v1, vs1, d1, ds1, p1, q1, rfl, rfl, rfl, h1, r1⟩ := trodAll_cons r0
  obtain ⟨v2, vs2, d2, ds2, p2, q2, rfl, rfl, rfl, h2, r2⟩ := trodAll_cons r1
  obtain ⟨v3, vs3, d3, ds3, p3, q3, rfl, rfl, rfl, h3, r3⟩ := trodAll_cons r2
  obtain ⟨v4, vs4, d4, ds4, p4, q4, rfl, rfl, rfl, h4, r4⟩ := trodAll_cons r3
  obtain ⟨v5, vs5, d5, ds5, p5, q5, rfl, rfl, rfl, h5, r5⟩ := trodAll_cons r4
  obtain ⟨rfl, rfl, rfl⟩ := trodAll_nil r5
  obtain rfl : args = #[v0, v1, v2, v3, v4, v5] := by cases args; simp_all
  obtain ⟨A0, len0, cap0, xs0, rfl, hc0, hm0, hI0⟩ := open_bytes (hval 0 22 v0 rfl rfl) h0
  obtain ⟨d1_, rfl, l1⟩ := open_ad (hval 1 25 v1 rfl rfl) h1
  obtain ⟨d2_, rfl, l2⟩ := open_ad (hval 2 25 v2 rfl rfl) h2
  obtain ⟨d3_, rfl, l3⟩ := open_ad (hval 3 25 v3 rfl rfl) h3
  obtain ⟨d4_, rfl, l4⟩ := open_ad (hval 4 25 v4 rfl rfl) h4
  obtain ⟨A5, len5, cap5, xs5, rfl, hc5, hm5, hI5⟩ := open_bytes (hval 5 22 v5 rfl rfl) h5
  exact tunnelBack_walk A0 len0 cap0 xs0 hc0 hm0 d1_ l1 d2_ l2 d3_ l3 d4_ l4 A5 len5 cap5 xs5 hc5 hm5 W hI0 hI5

theorem tunnelBack_said : Rows.TunnelBackSaid :=
  OpenClaim.holds_of_wide 5 Try.f5 rfl rfl rfl rfl rfl rfl rfl ⟨rfl, rfl, rfl, rfl, rfl⟩ rfl rfl rfl rfl rfl (by kernel_rfl) Try.func5 (by kernel_rfl)
    (of_decide_eq_true (by kernel_rfl)) (by unfold Func.isWrapper; first | (rw [if_pos (by decide +kernel)]; kernel_rfl) | (rw [if_neg (by decide +kernel)]; exact ⟨rfl, rfl⟩))
    (fun os started H enc _ => law_lift (s := Rows.tunnelBackSpec) Try.func5 (by kernel_rfl) rfl rfl (by intro H ds hd; match ds, hd with | [_, _, _, _, _, _], _ => exact ⟨rfl, rfl, rfl⟩) (by kernel_rfl) tunnelBack_walks os started H enc
      (ChangeSpec.witness6 (enc := enc) (C := Try.checked) false ⟨#[], #[.slice none 0 0, .agg #[.bool false, .int .u8 0, .int .u8 0, .int .u8 0, .int .u8 0, .int .u8 0, .int .u8 0, .int .u8 0, .int .u8 0, .int .u8 0, .int .u8 0, .int .u8 0, .int .u8 0, .int .u8 0, .int .u8 0, .int .u8 0, .int .u8 0], .agg #[.bool false, .int .u8 0, .int .u8 0, .int .u8 0, .int .u8 0, .int .u8 0, .int .u8 0, .int .u8 0, .int .u8 0, .int .u8 0, .int .u8 0, .int .u8 0, .int .u8 0, .int .u8 0, .int .u8 0, .int .u8 0, .int .u8 0], .agg #[.bool false, .int .u8 0, .int .u8 0, .int .u8 0, .int .u8 0, .int .u8 0, .int .u8 0, .int .u8 0, .int .u8 0, .int .u8 0, .int .u8 0, .int .u8 0, .int .u8 0, .int .u8 0, .int .u8 0, .int .u8 0, .int .u8 0], .agg #[.bool false, .int .u8 0, .int .u8 0, .int .u8 0, .int .u8 0, .int .u8 0, .int .u8 0, .int .u8 0, .int .u8 0, .int .u8 0, .int .u8 0, .int .u8 0, .int .u8 0, .int .u8 0, .int .u8 0, .int .u8 0, .int .u8 0], .slice none 0 0], []⟩ 8 (by kernel_rfl) (by kernel_rfl) (by kernel_rfl) (by kernel_rfl)))

end Go.Proofs.Ytomkfcpellcncaa
