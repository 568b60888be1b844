/-
  MaglevKeeps: its walk, the program's contracts a premise.
-/
import Derived.Test.YtmngagcekhlppaaVRight
import Derived.Deep.DeepCutAuto
namespace Go.Proofs.Ytmngagcekhlppaa
set_option maxRecDepth 100000
open Go.RowKit Go.Lib Go.ChangeShapes Go.WideShapes Go.ChangeAt

/-- What holds while an answer is written over: names and slots stay the call's own, nothing that lay ahead has turned. -/
structure KS (W4 : World) (b9 : Nat) (nv sv : Value) (N : List (List UInt8)) (L : List Int) (w : World) : Prop where
  bel : Below W4.heap.size W4 w
  tbl : Blk w 30 b9 [nv, sv]
  nm : OwnG eN w W4.heap.size nv N
  sl : OwnG eZ w W4.heap.size sv L
  low : W4.heap.size ≤ b9
theorem own_apart {α β : Type} {E : Enc α} {F : Enc β} {w : World} {b c : Nat} {u v : Value} {xs : List α} {ys : List β} (h : OwnG E w b u xs) (k : OwnG F w c v ys) (hne : E.T ≠ F.T) : u.ownBlock = none ∨ u.ownBlock ≠ v.ownBlock := by
  rcases h.2 with ⟨hv, _⟩ | ⟨g, cap, cur, rfl, _, hg, _⟩
  · exact .inl (by rw [hv]; rfl)
  · refine .inr fun e => ?_
    rcases k.2 with ⟨hv, _⟩ | ⟨g', cap', cur', rfl, _, hg', _⟩
    · rw [hv] at e
      cases e
    · cases e
      rw [hg] at hg'
      injection hg' with h4
      injection h4 with _ h5
      exact hne h5
theorem KS.drewN {W4 w : World} {b9 : Nat} {nv sv : Value} {N : List (List UInt8)} {L : List Int} (h : KS W4 b9 nv sv N L w) (n : Nat) : KS W4 b9 nv sv N L (w.drewN n) := ⟨below_drewN h.bel n, h.tbl, h.nm, h.sl, h.low⟩
theorem KS.below {W4 w w' : World} {b9 : Nat} {nv sv : Value} {N : List (List UInt8)} {L : List Int} (h : KS W4 b9 nv sv N L w) (hb : Below w.heap.size w w') : KS W4 b9 nv sv N L w' :=
  ⟨h.bel.trans (hb.mono h.bel.size), Blk_10.below h.tbl (Blk_10.lt h.tbl) hb, h.nm.below hb, h.sl.below hb, h.low⟩
/-- A block of another type is written: one that came behind. -/
theorem KS.other {α : Type} {E : Enc α} {W4 w w' : World} {b9 base : Nat} {nv sv v : Value} {N : List (List UInt8)} {L : List Int} {xs : List α} (h : KS W4 b9 nv sv N L w) (ho : OwnG E w base v xs) (hg : w.grownBy w' v.ownBlock) (hb : W4.heap.size ≤ base) (h1 : E.T ≠ 30) (h2 : ∀ b, sv.ownBlock = some b → v.ownBlock ≠ some b) (h3 : ∀ b, nv.ownBlock = some b → v.ownBlock ≠ some b) : KS W4 b9 nv sv N L w' where
  bel := h.bel.grown hg h.bel.size (fun k hk => Nat.le_trans hb (ho.lt k hk))
  tbl := Blk.gb h.tbl hg (ne_types ho h.tbl h1)
  nm := h.nm.kept hg (by
    cases hn : nv.ownBlock with
    | none => exact .inl rfl
    | some b => exact .inr fun e => h3 b hn e.symm)
  sl := h.sl.kept hg (by
    cases hn : sv.ownBlock with
    | none => exact .inl rfl
    | some b => exact .inr fun e => h2 b hn e.symm)
  low := h.low
theorem KS.setS {W4 w w' : World} {b9 : Nat} {nv sv : Value} {N : List (List UInt8)} {L L' : List Int} (h : KS W4 b9 nv sv N L w) (ho : OwnG eZ w' W4.heap.size sv L') (hg : w.grownBy w' sv.ownBlock) : KS W4 b9 nv sv N L' w' where
  bel := h.bel.grown hg h.bel.size h.sl.lt
  tbl := Blk.gb h.tbl hg (ne_types h.sl h.tbl (by decide))
  nm := h.nm.kept hg (own_apart h.nm h.sl (by decide))
  sl := ho
  low := h.low
theorem KS.setN {W4 w w' : World} {b9 : Nat} {nv sv : Value} {N N' : List (List UInt8)} {L : List Int} (h : KS W4 b9 nv sv N L w) (ho : OwnG eN w' W4.heap.size nv N') (hg : w.grownBy w' nv.ownBlock) : KS W4 b9 nv sv N' L w' where
  bel := h.bel.grown hg h.bel.size h.nm.lt
  tbl := Blk.gb h.tbl hg (ne_types h.nm h.tbl (by decide))
  nm := ho
  sl := h.sl.kept hg (own_apart h.sl h.nm (by decide))
  low := h.low
theorem size1_str : (Try.prog.info? 9).map (·.size) = some 1 := by kernel_rfl
set_option maxHeartbeats 16000000 in
theorem maglevKeeps_walkW (S : MagC) (key : List UInt8) (hk : key.length = 16) (n : Nat) (hn : n < 256) (A : Option Addr) (len cap : Nat) (xs : List Shr) (hc : len ≤ cap) (hm : cap ≤ maxLen) (_hX : ∀ x, x ∈ xs → x.nm.length ≤ maxLen ∧ -9223372036854775808 ≤ x.q ∧ x.q ≤ 9223372036854775807) (w : World) (hI : RdG eS w w.heap.size A len xs) :
    Calls Try.prog 9 #[keyC key, .int .u8 (n : Int), .slice A len cap] w fun e w' => e = .returned (.bool true) ∧ Below w.heap.size w w' := by
  obtain ⟨C0, hC0⟩ : ∃ C, (key.map v8).toArray = C := ⟨_, rfl⟩
  obtain ⟨Y, hY⟩ : ∃ Y, w.alloc (.cells C0 22) = Y := ⟨_, rfl⟩
  have HK0 := Lib.hid (show Blk Y 22 w.heap.size (key.map v8) by rw [← hY, ← hC0]; exact Blk_10.new w _ _)
  have HB0 := Lib.hid (show Below w.heap.size w Y by rw [← hY]; exact (Below.refl w.heap.size w).alloc (Nat.le_refl _) _)
  have HY := Lib.hid hY
  have HKE : Hid (keyC key = .agg C0) := Lib.hid (by rw [← hC0]; rfl)
  rw [HKE.out]
  have HKL := Lib.hid hk
  have HI := Lib.hid hI
  have HLE := Lib.hid hI.len
  have HCP := Lib.hid hc
  have HCM := Lib.hid hm
  have HAW := Lib.hid (fun W => awake_any S W)
  have HSS := Lib.hid S
  have hlb : len ≤ 9223372036854775807 := by unfold maxLen at hm; omega
  have HLB := Lib.hid hlb
  have HF0 : Hid (∀ W, Below w.heap.size w W → Calls Try.prog 11 #[.slice A len cap] W fun e w' => e = .returned (.bool (fewB xs)) ∧ w' = W) := Lib.hid (fun W hW => rfew_any cap HLB.out W (HI.out.below hW))
  have HM0 : Hid (∀ W, Below w.heap.size w W → Calls Try.prog 14 #[.slice A len cap] W fun e w' => e = .returned (.bool (mayB xs)) ∧ Below W.heap.size W w') := Lib.hid (fun W hW => rmay_any cap W (HI.out.below hW))
  clear hY hC0 hk hI hc hm hlb S _hX
  obtain ⟨F, hF⟩ : ∃ F, fewB xs = F := ⟨_, rfl⟩
  obtain ⟨M, hM⟩ : ∃ M, mayB xs = M := ⟨_, rfl⟩
  rw [hF] at HF0
  rw [hM] at HM0
  have HFE := Lib.hid hF
  have HME := Lib.hid hM
  clear hF hM
  go_enter Try.func9, Try.ntmps9
  go_wp2_with fail
  rw [HY.out]
  refine (HAW.out Y).mono ?_
  rintro e W1 ⟨rfl, hb⟩
  have D1 := Lib.hid (HB0.out.trans (hb.mono HB0.out.size))
  have HK1 := Lib.hid (Blk_10.below HK0.out (Blk_10.lt HK0.out) hb)
  clear hb
  cases F
  · go_wp2_with ((with_reducible refine (HF0.out W1 D1.out).mono ?_); rintro e W2 ⟨rfl, rfl⟩)
    refine (HAW.out _).mono ?_
    rintro e W3 ⟨rfl, hb⟩
    go_wp2_with fail
    go_ret
    exact ⟨rfl, D1.out.trans (hb.mono D1.out.size)⟩
  · cases M
    · go_wp2_with (first
        | ((with_reducible refine (HF0.out W1 D1.out).mono ?_); rintro e W2 ⟨rfl, rfl⟩)
        | ((with_reducible refine (HM0.out _ D1.out).mono ?_); rintro e W3 ⟨rfl, hb⟩; have D3 := Lib.hid (D1.out.trans (hb.mono D1.out.size)); clear hb))
      refine (HAW.out _).mono ?_
      rintro e W4 ⟨rfl, hb⟩
      go_wp2_with fail
      go_ret
      exact ⟨rfl, D3.out.trans (hb.mono D3.out.size)⟩
    · have HMS := Lib.hid ((mayB_iff xs).1 HME.out)
      have HN3 := Lib.hid (fewB_n HFE.out HLE.out)
      have HSH := Lib.hid (fewB_s HFE.out)
      have hnx := rnext_any (n : Int) (by omega) (by omega)
      obtain ⟨hsz, _, _⟩ := nextN_size (z := (n : Int)) (by omega)
      obtain ⟨p, hp⟩ : ∃ p, nextN (n : Int) = p := ⟨_, rfl⟩
      rw [hp] at hnx hsz
      have HNX := Lib.hid hnx
      have HSZ := Lib.hid hsz
      obtain ⟨R, hR⟩ : ∃ R, riseL xs = R := ⟨_, rfl⟩
      have HR := Lib.hid hR
      have HFU := Lib.hid (show Full R by rw [← hR]; exact HMS.out.full)
      obtain ⟨N, hN⟩ : ∃ N, R.map Shr.nm = N := ⟨_, rfl⟩
      have HN := Lib.hid hN
      obtain ⟨L, hL⟩ : ∃ L, slotL key p R = L := ⟨_, rfl⟩
      have HL := Lib.hid hL
      clear hnx hsz hp hR hN hL
      have HIW : Hid (∀ W, Below w.heap.size w W → RdG eS W w.heap.size A len xs) := Lib.hid (fun W hW => HI.out.below hW)
      have HNR : Hid (N.length = R.length) := Lib.hid (by rw [← HN.out, List.length_map])
      have HNL : Hid (N.length ≤ 30) := Lib.hid (by rw [HNR.out, ← HR.out]; exact rise_len HN3.out HLE.out)
      have HLL : Hid (L.length ≤ 65537) := Lib.hid (by rw [← HL.out]; exact slotL_most key HSZ.out R)
      have HRG : Hid (∀ x, x ∈ L → 0 ≤ x ∧ x < (N.length : Int)) := Lib.hid (fun x hx => by rw [← HL.out] at hx; rw [HNR.out]; exact slotL_range HFU.out key HSZ.out hx)
      have PB : Hid (∀ (A8 : Option Addr) (c8 B : Nat) (_ : len ≤ c8) (_ : c8 ≤ maxLen) (W : World) (_ : B ≤ W.heap.size) (_ : RdG eS W B A8 len xs), Calls Try.prog 12 #[.agg (key.map v8).toArray, .int .i64 (p : Int), .slice A8 len c8] W (BuildGave N L W)) := Lib.hid (fun A8 c8 B h1 h2 W h4 h3 => build_gave HSS.out key HKL.out p HSZ.out A8 len c8 xs HMS.out HN3.out HSH.out h1 h2 W B h4 h3 N (by rw [HR.out, HN.out]) L (by rw [HR.out, HL.out]))
      have h30 : len ≤ 30 := HN3.out
      go_wp2_with (first
        | ((with_reducible refine (HF0.out W1 D1.out).mono ?_); rintro e W2 ⟨rfl, rfl⟩)
        | ((with_reducible refine (HM0.out _ D1.out).mono ?_); rintro e W3 ⟨rfl, hb⟩; have D3 := Lib.hid (D1.out.trans (hb.mono D1.out.size)); have HK3 := Lib.hid (Blk_10.below HK1.out (Blk_10.lt HK1.out) hb); clear hb)
        | ((with_reducible refine (HNX.out _).mono ?_); rintro e W4 ⟨rfl, rfl⟩)
        | (at_builtin; refine wpList_appendG eS rfl _ _ rfl W3.heap.size (.slice (some ⟨W3.heap.size, 0, none⟩) 0 0) [] (by rfl) (OwnG.empty eS W3 (Nat.le_refl _)) w.heap.size A len cap xs (by rfl) ((HIW.out W3 D3.out).alloc D3.out.size _) (by simp only [List.length_nil]; omega) (by rw [World.size_alloc]; exact Nat.le_succ _) ?_; intro v8 W4 hv8 hg8 _; rw [List.nil_append] at hv8; have hb4 : Below W3.heap.size W3 W4 := ((Below.refl W3.heap.size W3).alloc (Nat.le_refl _) (.cells #[] 48)).grown hg8 (by rw [World.size_alloc]; exact Nat.le_succ _) (fun k hk => by cases hk; exact Nat.le_refl _); have D4 := Lib.hid (D3.out.trans (hb4.mono D3.out.size)); have HK4 := Lib.hid (Blk_10.below HK3.out (Blk_10.lt HK3.out) hb4); obtain ⟨A8, m8, c8, rfl, e8, k8, l8, _⟩ := hv8.sl; rw [HLE.out] at e8; subst m8; have HV8 := Lib.hid hv8.rd; have HK8 := Lib.hid k8; have HL8 := Lib.hid l8; clear hv8 hg8 hb4 k8 l8)
        | ((with_reducible show wpList _ _ _ (⟨some 38, _, _, _, _, _⟩ :: _) _ _); refine wpList_loadM (op := ⟨some 38, _, _, _, _, _⟩) 22 _ rfl (by rfl) w.heap.size 0 (by rfl) (key.map v8) (Blk_10.range HK4.out) _ Try.underlying22 rfl (keyp_size HKL.out) ?_)
        | ((with_reducible refine (PB.out A8 c8 W4.heap.size HK8.out HL8.out W4 (Nat.le_refl _) HV8.out).mono ?_); rintro e W5 ⟨A1, c1, A2, c2, rfl, k1, k2, k3, k4, ho1, ho2, hb⟩; have HO1 := Lib.hid ho1; have HO2 := Lib.hid ho2; have HB5 := Lib.hid hb; have KA := Lib.hid k1; have KB := Lib.hid k2; have KC := Lib.hid k3; have KD := Lib.hid k4; clear ho1 ho2 hb k1 k2 k3 k4))
      obtain ⟨Z5, hZ5⟩ : ∃ Z, W5.alloc (.cells #[.slice A1 N.length c1, .slice A2 L.length c2] 30) = Z := ⟨_, rfl⟩
      rw [hZ5]
      have HZ5 := Lib.hid hZ5
      clear hZ5
      obtain ⟨b9, hb9⟩ : ∃ b, W5.heap.size = b := ⟨_, rfl⟩
      have HS0 : Hid (KS W4 b9 (.slice A1 N.length c1) (.slice A2 L.length c2) N L Z5) := Lib.hid (by
        rw [← HZ5.out, ← hb9]
        exact ⟨HB5.out.alloc HB5.out.size _, tbl_new _ _ _, HO1.out.alloc _, HO2.out.alloc _, HB5.out.size⟩)
      rw [hb9]
      clear hb9 HO1 HO2 HB5 HZ5
      go_loopw [11] (fun i wr => ∃ j : Nat, j ≤ len ∧ i = .int .i64 (j : Int) ∧ KS W4 b9 (.slice A1 N.length c1) (.slice A2 L.length c2) N L wr)
        (fun i _ => len - (intOf i).toNat)
      case atStart => exact ⟨0, Nat.zero_le _, rfl, HS0.out⟩
      case round =>
        clear HS0
        obtain ⟨j, hj, rfl, hks⟩ := hrel
        have HS := Lib.hid hks
        clear hks
        by_cases hlt : j < len
        · have h1 : (j : Int) < (len : Int) := by omega
          have h0 : (0 : Int) ≤ (j : Int) := by omega
          obtain ⟨x, hx⟩ : ∃ x, xs[j]? = some x := ⟨_, List.getElem?_eq_getElem (by rw [HLE.out]; exact hlt)⟩
          have D5 := Lib.hid (D4.out.trans (HS.out.bel.mono D4.out.size))
          obtain ⟨b, off, hA, _⟩ := (HIW.out wr D5.out).addr (by omega)
          obtain ⟨b', off', hA8, _⟩ := HV8.out.addr (by omega)
          have q1 : wr.cell? ⟨b, off + j * 2, none⟩ = some (.string ⟨x.nm.toArray⟩) := by have h9 := HIW.out wr D5.out; rw [hA] at h9; exact h9.name hx
          have q2 : wr.cell? ⟨b, off + j * 2 + 1, none⟩ = some (.int .i64 x.q) := by have h9 := HIW.out wr D5.out; rw [hA] at h9; exact h9.quanta hx
          have q3 : wr.cell? ⟨b', off' + j * 2, none⟩ = some (.string ⟨x.nm.toArray⟩) := by have h9 := HV8.out.below HS.out.bel; rw [hA8] at h9; exact h9.name hx
          have q4 : wr.cell? ⟨b', off' + j * 2 + 1, none⟩ = some (.int .i64 x.q) := by have h9 := HV8.out.below HS.out.bel; rw [hA8] at h9; exact h9.quanta hx
          have HLT := Lib.hid hlt
          clear hx hlt hj
          subst hA hA8
          go_wp2_with fail
          go_quiet (fail)
          go_wp2_with fail
          go_roundw
          case rel => exact ⟨j + 1, HLT.out, (by have := HLT.out; go_num), HS.out.drewN _⟩
          case measure =>
            have := HLT.out
            simp [intOf]
            omega
        · obtain rfl : len = j := by omega
          have h1 : ¬ (len : Int) < (len : Int) := by omega
          have q1 := Blk_10.cell HS.out.tbl (i := 0) (v := .slice A1 N.length c1) rfl
          have q2 := Blk_10.cell HS.out.tbl (i := 1) (v := .slice A2 L.length c2) rfl
          have PCO := Lib.hid (HSS.out.count A1 A2 N.length c1 L.length c2 N L (Nat.le_trans HNL.out (by decide)) HLL.out KA.out KB.out KC.out KD.out HRG.out wr _ _ (Nat.le_refl _) (Nat.le_refl _) HS.out.nm.rd HS.out.sl.rd)
          clear hlt hj
          go_wp2_with (go_at_call 22; refine PCO.out.mono ?_; rintro e W6 ⟨v6, rfl, hv6, hb⟩; clear q1 q2; have HS6 := Lib.hid (HS.out.below hb); have HZS := Lib.hid (HS.out.bel.size); obtain ⟨A6, m6, c6, rfl, e6, k6, l6, _⟩ := hv6.sl; rw [cntZ_len] at e6; subst m6; have HV6 := Lib.hid hv6; have NS := Lib.hid (fun b (hb : (Value.slice A2 L.length c2).ownBlock = some b) => (fun e => by have h1 := hv6.lt b e; have h2 := HS.out.sl.ltS b hb; omega : (Value.slice A6 N.length c6).ownBlock ≠ some b)); have NN := Lib.hid (fun b (hb : (Value.slice A1 N.length c1).ownBlock = some b) => (fun e => by have h1 := hv6.lt b e; have h2 := HS.out.nm.ltS b hb; omega : (Value.slice A6 N.length c6).ownBlock ≠ some b)); clear hv6 hb k6 l6)
          obtain ⟨wo, hwo⟩ : ∃ z, z = wr := ⟨_, rfl⟩
          subst hwo
          go_loopw [13] (fun i wr => ∃ (q : Nat) (ys : List Int), q ≤ N.length ∧ i = .int .i64 (q : Int) ∧ ys.length = N.length ∧ KS W4 b9 (.slice A1 N.length c1) (.slice A2 L.length c2) N L wr ∧ OwnG eZ wr wo.heap.size (.slice A6 N.length c6) ys)
            (fun i _ => N.length - (intOf i).toNat)
          case atStart => exact ⟨0, _, Nat.zero_le _, rfl, cntZ_len _ _, HS6.out, HV6.out⟩
          case round =>
            obtain ⟨q, ys, hq, rfl, hyl, hks, hown⟩ := hrel
            have HS7 := Lib.hid hks
            have HV7 := Lib.hid hown
            have HYL := Lib.hid hyl
            have h30n : N.length ≤ 30 := HNL.out
            clear hks hown hyl
            by_cases hlt : q < N.length
            · have h2 : (q : Int) < (N.length : Int) := by omega
              have h0 : (0 : Int) ≤ (q : Int) := by omega
              obtain ⟨g6, c', hv, _⟩ := HV7.out.form (by rw [HYL.out]; omega)
              rw [HYL.out] at hv
              injection hv with hv1 _ hv2
              subst hv1 hv2
              obtain ⟨y, hy⟩ : ∃ y, ys[q]? = some y := ⟨_, List.getElem?_eq_getElem (by rw [HYL.out]; exact hlt)⟩
              have HY2 := Lib.hid hy
              have HLT := Lib.hid hlt
              have HQQ : Hid (q = q * eZ.k + 0) := Lib.hid (by show q = q * 1 + 0; omega)
              clear hy hlt hq
              go_wp2_with ((with_reducible show wpList _ _ _ (⟨none, .store 3 (.tmp 69) _, _, _, _, _⟩ :: _) _ _); refine wpList_storeG eZ rfl 3 (.tmp 69) _ rfl g6 q 0 q HQQ.out (by rfl) (.int .i64 (-1)) (by rfl) ys N.length c6 wo.heap.size HV7.out y (-1) HY2.out (by decide) rfl size1_int rfl rfl ?_; intro W8 ho8 hg8; have HV8' := Lib.hid ho8; have HS8 := Lib.hid (HS7.out.other HV7.out hg8 HZS.out (by decide) NS.out NN.out); clear ho8 hg8)
              refine ⟨⟨q + 1, ys.set q (-1), HLT.out, (by have := HLT.out; go_num), (by rw [List.length_set]; exact HYL.out), HS8.out, HV8'.out⟩, ?_⟩
              have := HLT.out
              simp [intOf]
              omega
            · obtain rfl : q = N.length := by omega
              have h2 : ¬ ((N.length : Nat) : Int) < (N.length : Int) := by omega
              clear hlt hq HV7 HYL
              go_wp2_with fail
              obtain ⟨wp, hwp⟩ : ∃ z, z = wr := ⟨_, rfl⟩
              subst hwp
              go_loopw [14] (fun i wr => ∃ (q : Nat) (ys : List Int), q ≤ L.length ∧ i = .int .i64 (q : Int) ∧ ys.length = L.length ∧ KS W4 b9 (.slice A1 N.length c1) (.slice A2 L.length c2) N ys wr)
                (fun i _ => L.length - (intOf i).toNat)
              case atStart => exact ⟨0, _, Nat.zero_le _, rfl, rfl, HS7.out⟩
              case round =>
                obtain ⟨q, ys, hq, rfl, hyl, hks⟩ := hrel
                have HS9 := Lib.hid hks
                have HYL := Lib.hid hyl
                have hll : L.length ≤ 65537 := HLL.out
                clear hks hyl
                have q1 := Blk_10.cell HS9.out.tbl (i := 0) (v := .slice A1 N.length c1) rfl
                have q2 := Blk_10.cell HS9.out.tbl (i := 1) (v := .slice A2 L.length c2) rfl
                by_cases hlt : q < L.length
                · have h3 : (q : Int) < (L.length : Int) := by omega
                  have h0 : (0 : Int) ≤ (q : Int) := by omega
                  obtain ⟨g7, c', hv, _⟩ := HS9.out.sl.form (by rw [HYL.out]; omega)
                  rw [HYL.out] at hv
                  injection hv with hv1 _ hv2
                  subst hv1 hv2
                  obtain ⟨y, hy⟩ : ∃ y, ys[q]? = some y := ⟨_, List.getElem?_eq_getElem (by rw [HYL.out]; exact hlt)⟩
                  have HY2 := Lib.hid hy
                  have HLT := Lib.hid hlt
                  have HQQ : Hid (q = q * eZ.k + 0) := Lib.hid (by show q = q * 1 + 0; omega)
                  clear hy hlt hq
                  go_wp2_with ((with_reducible show wpList _ _ _ (⟨none, .store 3 (.tmp 80) _, _, _, _, _⟩ :: _) _ _); refine wpList_storeG eZ rfl 3 (.tmp 80) _ rfl g7 q 0 q HQQ.out (by rfl) (.int .i64 0) (by rfl) ys L.length c2 W4.heap.size HS9.out.sl y 0 HY2.out (by decide) rfl size1_int rfl rfl ?_; intro W8 ho8 hg8; have HS8 := Lib.hid (HS9.out.setS ho8 hg8); clear ho8 hg8)
                  refine ⟨⟨q + 1, ys.set q 0, HLT.out, (by have := HLT.out; go_num), (by rw [List.length_set]; exact HYL.out), HS8.out⟩, ?_⟩
                  have := HLT.out
                  simp [intOf]
                  omega
                · obtain rfl : q = L.length := by omega
                  have h3 : ¬ ((L.length : Nat) : Int) < (L.length : Int) := by omega
                  clear hlt hq
                  go_wp2_with fail
                  clear q1 q2
                  obtain ⟨wq, hwq⟩ : ∃ z, z = wr := ⟨_, rfl⟩
                  subst hwq
                  go_loopw [15] (fun i wr => ∃ (q : Nat) (ns : List (List UInt8)), q ≤ N.length ∧ i = .int .i64 (q : Int) ∧ ns.length = N.length ∧ KS W4 b9 (.slice A1 N.length c1) (.slice A2 L.length c2) ns ys wr)
                    (fun i _ => N.length - (intOf i).toNat)
                  case atStart => exact ⟨0, _, Nat.zero_le _, rfl, rfl, HS9.out⟩
                  case round =>
                    obtain ⟨q, ns, hq, rfl, hnl, hks⟩ := hrel
                    have HS10 := Lib.hid hks
                    have HNLL := Lib.hid hnl
                    clear hks hnl
                    have q1 := Blk_10.cell HS10.out.tbl (i := 0) (v := .slice A1 N.length c1) rfl
                    have q2 := Blk_10.cell HS10.out.tbl (i := 1) (v := .slice A2 L.length c2) rfl
                    by_cases hlt : q < N.length
                    · have h4 : (q : Int) < (N.length : Int) := by omega
                      have h0 : (0 : Int) ≤ (q : Int) := by omega
                      obtain ⟨g8, c', hv, _⟩ := HS10.out.nm.form (by rw [HNLL.out]; omega)
                      rw [HNLL.out] at hv
                      injection hv with hv1 _ hv2
                      subst hv1 hv2
                      obtain ⟨y, hy⟩ : ∃ y, ns[q]? = some y := ⟨_, List.getElem?_eq_getElem (by rw [HNLL.out]; exact hlt)⟩
                      have HY2 := Lib.hid hy
                      have HLT := Lib.hid hlt
                      have HQQ : Hid (q = q * eN.k + 0) := Lib.hid (by show q = q * 1 + 0; omega)
                      clear hy hlt hq
                      go_wp2_with ((with_reducible show wpList _ _ _ (⟨none, .store 9 (.tmp 91) _, _, _, _, _⟩ :: _) _ _); refine wpList_storeG eN rfl 9 (.tmp 91) _ rfl g8 q 0 q HQQ.out (by rfl) (.string ⟨#[63]⟩) (by rfl) ns N.length c1 W4.heap.size HS10.out.nm y [63] HY2.out (by decide) rfl size1_str rfl rfl ?_; intro W8 ho8 hg8; have HS8 := Lib.hid (HS10.out.setN ho8 hg8); clear ho8 hg8)
                      refine ⟨⟨q + 1, ns.set q [63], HLT.out, (by have := HLT.out; go_num), (by rw [List.length_set]; exact HNLL.out), HS8.out⟩, ?_⟩
                      have := HLT.out
                      simp [intOf]
                      omega
                    · obtain rfl : q = N.length := by omega
                      have h4 : ¬ ((N.length : Nat) : Int) < (N.length : Int) := by omega
                      have HKZ := Lib.hid (Blk_10.below HK4.out (Blk_10.lt HK4.out) HS10.out.bel)
                      have D9 := Lib.hid (D4.out.trans (HS10.out.bel.mono D4.out.size))
                      have HP9 := Lib.hid (PB.out A8 c8 W4.heap.size HK8.out HL8.out wr HS10.out.bel.size (HV8.out.below HS10.out.bel))
                      clear hlt hq
                      go_wp2_with (first
                        | ((with_reducible show wpList _ _ _ (⟨some 93, _, _, _, _, _⟩ :: _) _ _); refine wpList_loadM (op := ⟨some 93, _, _, _, _, _⟩) 22 _ rfl (by rfl) w.heap.size 0 (by rfl) (key.map v8) (Blk_10.range HKZ.out) _ Try.underlying22 rfl (keyp_size HKL.out) ?_)
                        | ((with_reducible refine HP9.out.mono ?_); rintro e W9 ⟨A5, c5, A7, c7, rfl, _, _, _, _, ho1, ho2, hb⟩; have HO5 := Lib.hid ho1; have HO7 := Lib.hid ho2; have HB9 := Lib.hid hb; clear ho1 ho2 hb))
                      obtain ⟨Z9, hZ9⟩ : ∃ Z, W9.alloc (.cells #[.slice A5 N.length c5, .slice A7 L.length c7] 30) = Z := ⟨_, rfl⟩
                      rw [hZ9]
                      have HZ9 := Lib.hid hZ9
                      clear hZ9
                      have HT16 : Hid (Blk Z9 30 W9.heap.size [.slice A5 N.length c5, .slice A7 L.length c7]) := Lib.hid (by rw [← HZ9.out]; exact tbl_new _ _ _)
                      have HB10 : Hid (Below wr.heap.size wr Z9) := Lib.hid (below_zed HB9.out HZ9.out)
                      have D10 := Lib.hid (D9.out.trans (HB10.out.mono D9.out.size))
                      have HK10 := Lib.hid (Blk_10.below HKZ.out (Blk_10.lt HKZ.out) HB10.out)
                      have HO5z : Hid (OwnG eN Z9 wr.heap.size (.slice A5 N.length c5) N) := Lib.hid (by rw [← HZ9.out]; exact HO5.out.alloc _)
                      have HO7z : Hid (OwnG eZ Z9 wr.heap.size (.slice A7 L.length c7) L) := Lib.hid (by rw [← HZ9.out]; exact HO7.out.alloc _)
                      clear q1 q2
                      refine wp_region_held_drew (S := fun W => Below Z9.heap.size Z9 W) (by kernel_rfl) ((Below.refl Z9.heap.size Z9).drew) (fun hHeld => ?_)
                      obtain ⟨X0, hX0⟩ : ∃ X, Z9.drew = X := ⟨_, rfl⟩
                      rw [hX0] at hHeld ⊢
                      clear hX0
                      refine tkY 0 99 (.agg #[.slice A5 N.length c5, .slice A7 L.length c7]) rfl (yieldsIf_load_mid (by rfl) 30 _ rfl W9.heap.size 0 rfl [.slice A5 N.length c5, .slice A7 L.length c7] _ (fun W hW => Blk_10.range (Blk_10.below HT16.out (Blk_10.lt HT16.out) hW)) Try.underlying30 rfl size2_table) hHeld ?_
                      simp only [Act.put, sA, sZ, sS]
                      refine tkY 1 100 (keyC key) rfl (yields_keyp (by rfl) _ rfl w.heap.size rfl key HKL.out (fun W hW => Blk_10.below HK10.out (Blk_10.lt HK10.out) hW)) hHeld ?_
                      simp only [Act.put, sA, sZ, sS]
                      refine tk 2 101 (.int .i64 (p : Int)) rfl hHeld ?_
                      simp only [Act.put, sA, sZ, sS]
                      refine tk 3 102 (.slice A len cap) rfl hHeld ?_
                      simp only [Act.put, sA, sZ, sS]
                      refine wpAnyH_ready (rs := [4]) (by kernel_rfl) (by simp) (AllReadyH.cons (o := ⟨some 103, _, _, _, _, _⟩) rfl (fun K hK => ?_) AllReadyH.nil)
                      go_simp
                      refine (rbuild_gave key HKL.out p HSZ.out A len cap xs HMS.out HSH.out X0 w.heap.size (D10.out.trans (hHeld.mono D10.out.size)).size (HIW.out X0 (D10.out.trans (hHeld.mono D10.out.size))) N (by rw [HR.out, HN.out]) L (by rw [HR.out, HL.out])).mono ?_
                      rintro e X1 ⟨A11, c11, A12, c12, rfl, hn1, hs1, hb⟩
                      have HB11 := Lib.hid (hHeld.trans (hb.mono hHeld.size))
                      have HN11 := Lib.hid hn1
                      have HS11 := Lib.hid hs1
                      clear hn1 hs1 hb
                      refine hK.out _ _ HB11.out (fun hHeld => ?_)
                      clear hK K
                      refine wpAnyH_ready (rs := [5]) (by kernel_rfl) (by simp) (AllReadyH.cons (o := ⟨some 104, _, _, _, _, _⟩) rfl (fun K hK => ?_) AllReadyH.nil)
                      go_simp
                      refine (same_tbl HNL.out HLL.out (HO5z.out.below HB11.out) (HO7z.out.below HB11.out) HN11.out HS11.out).mono ?_
                      rintro e X2 ⟨rfl, hb⟩
                      have HB12 := Lib.hid (HB11.out.trans (hb.mono HB11.out.size))
                      clear hb
                      refine hK.out _ _ HB12.out (fun hHeld => ?_)
                      clear hK K
                      refine tk 6 6 (.bool true) rfl hHeld ?_
                      simp only [Act.put, sA, sZ, sS]
                      refine wpAnyH_done (by kernel_rfl) ?_ _
                      clear hHeld
                      go_wp2_with fail
                      go_ret
                      exact ⟨rfl, D10.out.trans (HB12.out.mono D10.out.size)⟩
end Go.Proofs.Ytmngagcekhlppaa
