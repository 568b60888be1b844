/-
  PROVED HERE: 'NatRightSaid': whatever bytes frame, address addr, number port and Boolean dst are, the Go function NatRight of package wayleavelaw12 returns true, and its arguments read behind the call as they read before. No condition.
-/
import Derived.Test.YtkmcopenflakkaaNRig
namespace Go.Proofs.Ytkmcopenflakkaa
set_option maxRecDepth 100000
open Go.RowKit Go.Lib Go.ChangeShapes Go.WideShapes Go.ChangeAt

theorem seg_cut {xs z : List UInt8} {six : Bool} {n : Nt} {p : Nat} {u : Bool} (h : AtF xs z six n p u) : (xs.drop (p + n.head)).take (n.total - n.head) = segN (z.drop p) n ∧ n.head ≤ n.total := by
  have hb := h.f.bnd
  have hh : n.head ≤ n.total := by
    have q := hb.ok true
    have := q.a
    have := q.p
    have := q.k
    have hs : (plF six n p u true).ck = p + n.head + plc u := rfl
    omega
  refine ⟨?_, hh⟩
  unfold segN
  rw [h.zt, List.drop_drop, List.drop_take, List.take_take]
  congr 1
  omega
/-- The document's Right of the segment of a fine frame. -/
theorem right_at {xs z : List UInt8} {six : Bool} {n : Nt} {p : Nat} {u : Bool} (h : AtF xs z six n p u) (hl : xs.length ≤ 65535) {A : Option Addr} {cap : Nat} (W : World) (hr : Rd W W.heap.size A (n.total - n.head) (segN (z.drop p) n)) (hcap : n.total - n.head ≤ cap) :
    Calls Try.prog 16 #[adC (readK xs).t.s, adC (readK xs).t.d, .int .i64 (readK xs).t.pr, .slice A (n.total - n.head) cap] W fun e w' => e = .returned (.bool (rightS six (readK xs).t.s.b (readK xs).t.d.b u (segN (z.drop p) n))) ∧ Below W.heap.size W w' := by
  obtain ⟨_, _, _, e4, e5, _, e7, e8, e9, _⟩ := h.en
  have hb := h.f.bnd
  have hx := h.x
  have r := rright_any six (readK xs).t.s.b (readK xs).t.d.b (by rw [e7]; exact hb.s) (by rw [e8]; exact hb.d) (A := A) (len := n.total - n.head) (cap := cap) (xs := segN (z.drop p) n) (by omega) hcap W hr u h.f.fl
  rw [← e9] at r
  have a1 : Value.agg (addrC six (readK xs).t.s.b) = adC (readK xs).t.s := by rw [← e4]; rfl
  have a2 : Value.agg (addrC six (readK xs).t.d.b) = adC (readK xs).t.d := by rw [← e5]; rfl
  rw [a1, a2] at r
  exact r
set_option maxHeartbeats 16000000 in
theorem natRight_d (A : Option Addr) (len cap : Nat) (xs : List UInt8) (hca : len ≤ cap) (hma : cap ≤ maxLen) (a : Ad) (ha : a.b.length = 16) (m : Int) (w : World) (hI : Rd w w.heap.size A len xs) :
    Calls Try.prog 5 #[.slice A len cap, adC a, .int .i64 m, .bool true] w fun e w' => e = .returned (.bool true) ∧ Below w.heap.size w w' := by
  have hml : len ≤ 9223372036854775807 := by unfold maxLen at hma; omega
  obtain ⟨Y, hY, hq, hbel⟩ := box_ad w a
  have HXL := Lib.hid hI.len
  have HRX := Lib.hid (fun W (hB : Below w.heap.size w W) => (hI.below hB).more hB.size)
  have HCA := Lib.hid hca
  have HMA := Lib.hid hma
  have HAL := Lib.hid ha
  have E1 := Lib.hid (show adC a = .agg (adL a).toArray from rfl)
  obtain ⟨C1, hC1⟩ : ∃ C, (adL a).toArray = C := ⟨_, rfl⟩
  rw [E1.out]
  rw [hC1] at hY ⊢
  rw [hC1] at E1
  have HC1 := Lib.hid hC1
  have HY := Lib.hid hY
  have HQ := Lib.hid hq
  have HB := Lib.hid hbel
  clear hI hY hq hbel hC1 ha hca hma
  go_enter Try.func5, Try.ntmps5
  go_wp2_with fail
  rw [HY.out]
  refine (awake_any _).mono ?_
  rintro e w1 ⟨rfl, hb1⟩
  have HB1 := Lib.hid (HB.out.trans (hb1.mono HB.out.size))
  have HQ1 := Lib.hid (HQ.out.below HQ.out.lt hb1)
  clear hb1
  by_cases hn : 3000 < len
  · have hn' : (3000 : Int) < (len : Int) := by omega
    have hnb : decide ((3000 : Int) < (len : Int)) = true := decide_eq_true hn'
    clear hn
    go_wp2_with fail
    refine (awake_any _).mono ?_
    rintro e w2 ⟨rfl, hb2⟩
    go_wp2_with fail
    go_ret
    exact ⟨rfl, HB1.out.trans (hb2.mono HB1.out.size)⟩
  · have hn' : ¬ (3000 : Int) < (len : Int) := by omega
    have hnb : decide ((3000 : Int) < (len : Int)) = false := decide_eq_false hn'
    have HN1 := Lib.hid (show len ≤ 3000 by omega)
    clear hn
    have HRD := Lib.hid (kread_any A len cap xs (by have := HN1.out; omega) HCA.out w1 (HRX.out w1 HB1.out))
    have HOK := Lib.hid (readK_ok xs)
    obtain ⟨k, hk⟩ : ∃ k, readK xs = k := ⟨_, rfl⟩
    have HK := Lib.hid hk
    rw [hk] at HRD HOK
    clear hk
    go_wp2_with fail
    refine HRD.out.mono ?_
    rintro e w2 ⟨rfl, hb2⟩
    have HB2 := Lib.hid (HB1.out.trans (hb2.mono HB1.out.size))
    have HQ2 := Lib.hid (HQ1.out.below HQ1.out.lt hb2)
    clear hb2 hn' hnb
    go_wp2_with (first
      | ((with_reducible show wpList _ _ _ (⟨none, .store 37 (.tmp 9) _, _, _, _, _⟩ :: _) _ _); refine wpList_storePk rfl (.tmp 9) _ rfl (by rfl) (k) HOK.out (by rfl) (by rfl) ?_; intro w3 hp_ hb_; have HP3 := Lib.hid hp_; have HB3 := Lib.hid (HB2.out.trans (hb_.mono HB2.out.size)); have HQ3 := Lib.hid (HQ2.out.below HQ2.out.lt hb_); clear hp_ hb_; generalize w2.heap.size = G at HP3 ⊢)
      | ((with_reducible show wpList _ _ _ (⟨some 27, _, _, _, _, _⟩ :: _) _ _); refine wpList_loadM (op := ⟨some 27, _, _, _, _, _⟩) 25 _ rfl (by rfl) w.heap.size 0 (by rfl) (adL a) (Blk_10.range HQ3.out) _ Try.underlying25 rfl (sizeAdL HAL.out) ?_; rw [HC1.out]))
    have TO := Lib.hid (nto_any HAL.out (m := m) (by have := HN1.out; omega) HCA.out HMA.out w3 (HRX.out w3 HB3.out))
    rw [E1.out] at TO
    refine TO.out.mono ?_
    rintro e w5 ⟨hn, hy, hb5⟩
    have HB5 := Lib.hid (HB3.out.trans (hb5.mono HB3.out.size))
    have HP5 := Lib.hid (HP3.out.below HP3.out.lt hb5)
    clear hb5 TO
    cases hc : mayN (readK xs) a m with
    | false =>
      obtain rfl := hn hc
      clear hn hy hc
      go_wp2_with fail
      go_ret
      exact ⟨rfl, HB5.out⟩
    | true =>
      obtain ⟨vx, rfl, hox⟩ := hy hc
      obtain ⟨hk0, hof, m0, m1⟩ := mayN_yes hc
      obtain ⟨z, six, n, p, u, hA⟩ := at_fine hk0
      obtain ⟨ho, _, _⟩ := hA.may hc
      obtain ⟨n', t1, t2, t3, t4, t5⟩ := hA.turn HAL.out ho m0 m1 true
      have hr := hA.right HAL.out m0 m1 true t5
      obtain ⟨hsg, hht⟩ := seg_cut hA
      obtain ⟨hsg', _⟩ := seg_cut t1
      have hxl := hA.x
      have hnl := hA.len a m true
      obtain ⟨e1, e2, _⟩ := hA.en
      rw [HK.out] at e1 e2 hk0
      rw [t2, t3] at hsg'
      obtain ⟨S, hS⟩ : ∃ S, p + n.head = S := ⟨_, rfl⟩
      obtain ⟨E, hE⟩ : ∃ E, p + n.total = E := ⟨_, rfl⟩
      obtain ⟨l, hl⟩ : ∃ l, n.total - n.head = l := ⟨_, rfl⟩
      rw [hS] at e2 hsg hsg'
      rw [hE] at e1 hxl hnl
      rw [hl] at hsg hsg'
      have hSE : S + l = E := by omega
      have hlE : E ≤ len := by rw [← HXL.out]; exact hxl
      obtain ⟨Ax, cx, rfl, hx1, hx2, _⟩ := hox.formN hnl
      have HSE := Lib.hid hSE
      have HLE := Lib.hid (show E ≤ len ∧ len ≤ 3000 ∧ len ≤ cap from ⟨hlE, HN1.out, HCA.out⟩)
      have HCX := Lib.hid hx1
      have HLX := Lib.hid hnl
      have HOX := Lib.hid hox
      have RDX := Lib.hid (t4 ▸ kread_any Ax E cx (natL xs a m true) (by have := HN1.out; omega) hx1 w5 (hox.rdN hnl).2.2)
      have HOD := Lib.hid (pkN_ok (readK_ok xs) HAL.out m true)
      rw [HK.out] at RDX HOD
      have HKC := Lib.hid (fun W g (h : Blk W 37 g (pkL k)) => show W.cell? ⟨g, 0, none⟩ = some (.int .i64 0) ∧ W.cell? ⟨g, 40, none⟩ = some (.int .i64 (S : Int)) ∧ W.cell? ⟨g, 41, none⟩ = some (.int .i64 (E : Int)) from by
        obtain ⟨q1, _, _, q2, q3⟩ := pk_cells h HOK.out
        exact ⟨hk0 ▸ q1, e2 ▸ q2, e1 ▸ q3⟩)
      have HQC := Lib.hid (fun W g (h : Blk W 37 g (pkL (pkN k a m true))) => show W.cell? ⟨g, 0, none⟩ = some (.int .i64 0) ∧ W.cell? ⟨g, 40, none⟩ = some (.int .i64 (S : Int)) ∧ W.cell? ⟨g, 41, none⟩ = some (.int .i64 (E : Int)) from by
        obtain ⟨q1, _, _, q2, q3⟩ := pk_cells h HOD.out
        exact ⟨show W.cell? ⟨g, 0, none⟩ = some (.int .i64 0) from hk0 ▸ (show W.cell? ⟨g, 0, none⟩ = some (.int .i64 k.kind) from q1), e2 ▸ (show W.cell? ⟨g, 40, none⟩ = some (.int .i64 k.sg) from q2), e1 ▸ (show W.cell? ⟨g, 41, none⟩ = some (.int .i64 k.en) from q3)⟩)
      obtain ⟨R, hR⟩ : ∃ R, rightS six k.t.s.b k.t.d.b u (segN (z.drop p) n) = R := ⟨_, rfl⟩
      have R1 := Lib.hid (fun W (h : Rd W W.heap.size A len xs) => show Calls Try.prog 16 #[adC k.t.s, adC k.t.d, .int .i64 k.t.pr, .slice (cutA A cap S) l (cap - S)] W fun e w' => e = .returned (.bool R) ∧ Below W.heap.size W w' from by
        have c := h.cut (l := S) (n := l) (by omega) cap HCA.out
        rw [hsg] at c
        have := right_at hA (by have := HN1.out; rw [HXL.out]; omega) (A := cutA A cap S) (cap := cap - S) W (by rw [hl]; exact c) (by rw [hl]; have := HCA.out; omega)
        rw [HK.out, hl, hR] at this
        exact this)
      have R2 := Lib.hid (fun W (h : Rd W W.heap.size Ax E (natL xs a m true)) => show Calls Try.prog 16 #[adC (pkN k a m true).t.s, adC (pkN k a m true).t.d, .int .i64 (pkN k a m true).t.pr, .slice (cutA Ax cx S) l (cx - S)] W fun e w' => e = .returned (.bool R) ∧ Below W.heap.size W w' from by
        have c := h.cut (l := S) (n := l) (by omega) cx hx1
        rw [hsg'] at c
        have := right_at t1 (by have := HN1.out; rw [hnl]; omega) (A := cutA Ax cx S) (cap := cx - S) W (by rw [t2, t3, hl]; exact c) (by rw [t2, t3, hl]; omega)
        rw [t4, hr, HK.out, t2, t3, hl, hR] at this
        exact this)
      have CUT1 := Lib.hid (fun W => run_cut8 A len cap S l (S : Int) (E : Int) rfl (by omega) (by have := HCA.out; omega) W)
      have CUT2 := Lib.hid (fun W => run_cut8 Ax E cx S l (S : Int) (E : Int) rfl (by omega) (by omega) W)
      have s1 : ((S : Int) != (S : Int)) = false := by simp
      have s2 : ((E : Int) != (E : Int)) = false := by simp
      have s3 : (S != S) = false := by simp
      have s4 : (E != E) = false := by simp
      clear hn hy hc hk0 hof m0 m1 hA ho t1 t2 t3 t4 t5 hr hsg hht hsg' hxl hnl e1 e2 hS hE hl hSE hlE hx1 hx2 hox hR
      go_wp2_with fail
      refine RDX.out.mono ?_
      rintro e w6 ⟨rfl, hb6⟩
      have HB6 := Lib.hid (HB5.out.trans (hb6.mono HB5.out.size))
      have HP6 := Lib.hid (HP5.out.below HP5.out.lt hb6)
      have HOX6 := Lib.hid (HOX.out.below hb6)
      clear hb6
      go_wp2_with (first
        | ((with_reducible show wpList _ _ _ (⟨none, .store 37 (.tmp 12) _, _, _, _, _⟩ :: _) _ _); refine wpList_storePk rfl (.tmp 12) _ rfl (by rfl) (pkN k a m true) HOD.out (by rfl) (by rfl) ?_; intro w7 hp_ hb_; have HD7 := Lib.hid hp_; have HB7 := Lib.hid (HB6.out.trans (hb_.mono HB6.out.size)); have HP7 := Lib.hid (HP6.out.below HP6.out.lt hb_); have HOX7 := Lib.hid (HOX6.out.below hb_); clear hp_ hb_; generalize w6.heap.size = G12 at HD7 ⊢; obtain ⟨c0, c40, c41⟩ := HKC.out w7 G HP7.out; obtain ⟨d0, d40, d41⟩ := HQC.out w7 G12 HD7.out)
        | ((with_reducible show wpList _ _ _ (⟨some 71, _, _, _, _, _⟩ :: _) _ _); refine wpList_loadTu (op := ⟨some 71, _, _, _, _, _⟩) _ rfl (by rfl) G 1 (by rfl) k.t HOK.out (Blk_10.mid HP7.out (pre := [.int .i64 k.kind]) (post := pkE k) rfl rfl) ?_)
        | ((with_reducible show wpList _ _ _ (⟨none, .store 35 (.tmp 13) _, _, _, _, _⟩ :: _) _ _); refine wpList_storeNewG (op := ⟨none, .store 35 (.tmp 13) _, _, _, _, _⟩) rfl 35 _ _ rfl (by rfl) (tuL k.t) (by rfl) (by rw [tuL_len HOK.out]; rfl) (sizeTuL HOK.out) (tuL_one _) ?_; intro w8 hp_ hb_ hz_; clear hz_; have HT8 := Lib.hid hp_; have HB8 := Lib.hid (HB7.out.trans (hb_.mono HB7.out.size)); have HP8 := Lib.hid (HP7.out.below HP7.out.lt hb_); have HD8 := Lib.hid (HD7.out.below HD7.out.lt hb_); have HOX8 := Lib.hid (HOX7.out.below hb_); clear hp_ hb_ c0 c40 c41 d0 d40 d41; generalize w7.heap.size = G13 at HT8 ⊢)
        | ((with_reducible show wpList _ _ _ (⟨some 73, _, _, _, _, _⟩ :: _) _ _); refine wpList_loadTu (op := ⟨some 73, _, _, _, _, _⟩) _ rfl (by rfl) G12 1 (by rfl) (pkN k a m true).t HOD.out (Blk_10.mid HD8.out (pre := [.int .i64 k.kind]) (post := pkE (pkN k a m true)) rfl rfl) ?_)
        | ((with_reducible show wpList _ _ _ (⟨none, .store 35 (.tmp 14) _, _, _, _, _⟩ :: _) _ _); refine wpList_storeNewG (op := ⟨none, .store 35 (.tmp 14) _, _, _, _, _⟩) rfl 35 _ _ rfl (by rfl) (tuL (pkN k a m true).t) (by rfl) (by rw [tuL_len HOD.out]; rfl) (sizeTuL HOD.out) (tuL_one _) ?_; intro w9 hp_ hb_ hz_; clear hz_; have HU9 := Lib.hid hp_; have HB9 := Lib.hid (HB8.out.trans (hb_.mono HB8.out.size)); have HP9 := Lib.hid (HP8.out.below HP8.out.lt hb_); have HD9 := Lib.hid (HD8.out.below HD8.out.lt hb_); have HT9 := Lib.hid (HT8.out.below HT8.out.lt hb_); have HOX9 := Lib.hid (HOX8.out.below hb_); clear hp_ hb_; generalize w8.heap.size = G14 at HU9 ⊢))
      clear s1 s2 s3 s4
      have HRXX := Lib.hid (fun W (h : Below w9.heap.size w9 W) => HRX.out W (HB9.out.trans (h.mono HB9.out.size)))
      have HRYY := Lib.hid (fun W (h : Below w9.heap.size w9 W) => ((HOX9.out.below h).rdN HLX.out).2.2)
      have HKC9 := Lib.hid (fun W (h : Below w9.heap.size w9 W) => HKC.out W G (HP9.out.below HP9.out.lt h))
      have HQC9 := Lib.hid (fun W (h : Below w9.heap.size w9 W) => HQC.out W G12 (HD9.out.below HD9.out.lt h))
      have TN1 := Lib.hid (fun W (h : Below w9.heap.size w9 W) => (tu_num (HT9.out.below HT9.out.lt h) HOK.out).1)
      have TN2 := Lib.hid (fun W (h : Below w9.heap.size w9 W) => (tu_num (HU9.out.below HU9.out.lt h) HOD.out).1)
      refine wp_region_held_drew (S := fun W => Below w9.heap.size w9 W) (by kernel_rfl) ((Below.refl _ _).drew) (fun hHeld => ?_)
      obtain ⟨X, hX⟩ : ∃ X, w9.drew = X := ⟨_, rfl⟩
      rw [hX] at hHeld ⊢
      clear hX
      refine tk 0 74 (.pointer (some ⟨G13, 0, none⟩)) rfl hHeld ?_
      simp only [Act.put, sA, sZ, sS]
      refine tkY 1 75 (.agg (adL k.t.s).toArray) rfl (yieldsIf_load_mid (by rfl) 25 _ rfl G13 0 rfl (adL k.t.s) _ (fun W hW => tu_src (HT9.out.below HT9.out.lt hW)) Try.underlying25 rfl (sizeAdL HOK.out.s)) hHeld ?_
      simp only [Act.put, sA, sZ, sS]
      refine tk 2 76 (.pointer (some ⟨G13, 17, none⟩)) rfl hHeld ?_
      simp only [Act.put, sA, sZ, sS]
      refine tkY 3 77 (.agg (adL k.t.d).toArray) rfl (yieldsIf_load_mid (by rfl) 25 _ rfl G13 17 rfl (adL k.t.d) _ (fun W hW => tu_dst (HT9.out.below HT9.out.lt hW) HOK.out) Try.underlying25 rfl (sizeAdL HOK.out.d)) hHeld ?_
      simp only [Act.put, sA, sZ, sS]
      refine tk 4 78 (.pointer (some ⟨G13, 34, none⟩)) rfl hHeld ?_
      simp only [Act.put, sA, sZ, sS]
      refine tkY 5 79 (.int .i64 k.t.pr) rfl (Or.inl ⟨by rfl, fun W hW => by have hc := TN1.out W hW; go_simp⟩) hHeld ?_
      simp only [Act.put, sA, sZ, sS]
      refine tk 6 80 (.slice A len cap) rfl hHeld ?_
      simp only [Act.put, sA, sZ, sS]
      refine tk 7 81 (.pointer (some ⟨G, 40, none⟩)) rfl hHeld ?_
      simp only [Act.put, sA, sZ, sS]
      refine tkY 8 82 (.int .i64 (S : Int)) rfl (Or.inl ⟨by rfl, fun W hW => by have hc := (HKC9.out W hW).2.1; go_simp⟩) hHeld ?_
      simp only [Act.put, sA, sZ, sS]
      refine tk 9 83 (.pointer (some ⟨G, 41, none⟩)) rfl hHeld ?_
      simp only [Act.put, sA, sZ, sS]
      refine tkY 10 84 (.int .i64 (E : Int)) rfl (Or.inl ⟨by rfl, fun W hW => by have hc := (HKC9.out W hW).2.2; go_simp⟩) hHeld ?_
      simp only [Act.put, sA, sZ, sS]
      refine tkY 11 85 (.slice (cutA A cap S) l (cap - S)) rfl (Or.inl ⟨by rfl, fun W _ => by have hs := CUT1.out W; go_simp⟩) hHeld ?_
      simp only [Act.put, sA, sZ, sS]
      refine tk 13 87 (.pointer (some ⟨G14, 0, none⟩)) rfl hHeld ?_
      simp only [Act.put, sA, sZ, sS]
      refine tkY 14 88 (.agg (adL (pkN k a m true).t.s).toArray) rfl (yieldsIf_load_mid (by rfl) 25 _ rfl G14 0 rfl (adL (pkN k a m true).t.s) _ (fun W hW => tu_src (HU9.out.below HU9.out.lt hW)) Try.underlying25 rfl (sizeAdL HOD.out.s)) hHeld ?_
      simp only [Act.put, sA, sZ, sS]
      refine tk 15 89 (.pointer (some ⟨G14, 17, none⟩)) rfl hHeld ?_
      simp only [Act.put, sA, sZ, sS]
      refine tkY 16 90 (.agg (adL (pkN k a m true).t.d).toArray) rfl (yieldsIf_load_mid (by rfl) 25 _ rfl G14 17 rfl (adL (pkN k a m true).t.d) _ (fun W hW => tu_dst (HU9.out.below HU9.out.lt hW) HOD.out) Try.underlying25 rfl (sizeAdL HOD.out.d)) hHeld ?_
      simp only [Act.put, sA, sZ, sS]
      refine tk 17 91 (.pointer (some ⟨G14, 34, none⟩)) rfl hHeld ?_
      simp only [Act.put, sA, sZ, sS]
      refine tkY 18 92 (.int .i64 (pkN k a m true).t.pr) rfl (Or.inl ⟨by rfl, fun W hW => by have hc := TN2.out W hW; go_simp⟩) hHeld ?_
      simp only [Act.put, sA, sZ, sS]
      refine tk 19 93 (.slice Ax E cx) rfl hHeld ?_
      simp only [Act.put, sA, sZ, sS]
      refine tk 20 94 (.pointer (some ⟨G12, 40, none⟩)) rfl hHeld ?_
      simp only [Act.put, sA, sZ, sS]
      refine tkY 21 95 (.int .i64 (S : Int)) rfl (Or.inl ⟨by rfl, fun W hW => by have hc := (HQC9.out W hW).2.1; go_simp⟩) hHeld ?_
      simp only [Act.put, sA, sZ, sS]
      refine tk 22 96 (.pointer (some ⟨G12, 41, none⟩)) rfl hHeld ?_
      simp only [Act.put, sA, sZ, sS]
      refine tkY 23 97 (.int .i64 (E : Int)) rfl (Or.inl ⟨by rfl, fun W hW => by have hc := (HQC9.out W hW).2.2; go_simp⟩) hHeld ?_
      simp only [Act.put, sA, sZ, sS]
      refine tkY 24 98 (.slice (cutA Ax cx S) l (cx - S)) rfl (Or.inl ⟨by rfl, fun W _ => by have hs := CUT2.out W; go_simp⟩) hHeld ?_
      simp only [Act.put, sA, sZ, sS]
      refine wpAnyH_ready (rs := [12]) (by kernel_rfl) (by simp) (AllReadyH.cons (o := ⟨some 86, _, _, _, _, _⟩) rfl (fun K hK => ?_) AllReadyH.nil)
      go_simp
      refine (R1.out _ (HRXX.out _ hHeld)).mono ?_
      rintro e wa ⟨rfl, hba⟩
      refine hK.out _ _ (hHeld.trans (hba.mono hHeld.size)) (fun hHeld => ?_)
      clear hK K hba
      refine wpAnyH_ready (rs := [25]) (by kernel_rfl) (by simp) (AllReadyH.cons (o := ⟨some 99, _, _, _, _, _⟩) rfl (fun K hK => ?_) AllReadyH.nil)
      go_simp
      refine (R2.out _ (HRYY.out _ hHeld)).mono ?_
      rintro e wb ⟨rfl, hbb⟩
      refine hK.out _ _ (hHeld.trans (hbb.mono hHeld.size)) (fun hHeld => ?_)
      clear hK K hbb
      have rr : (R == R) = true := by simp
      refine tk 26 100 (.bool true) rfl hHeld ?_
      simp only [Act.put, sA, sZ, sS]
      refine tk 27 8 (.bool true) rfl hHeld ?_
      simp only [Act.put, sA, sZ, sS]
      refine wpAnyH_done (by kernel_rfl) ?_ _
      go_wp2_with fail
      go_ret
      exact ⟨rfl, HB9.out.trans (hHeld.mono HB9.out.size)⟩
set_option maxHeartbeats 16000000 in
theorem natRight_s (A : Option Addr) (len cap : Nat) (xs : List UInt8) (hca : len ≤ cap) (hma : cap ≤ maxLen) (a : Ad) (ha : a.b.length = 16) (m : Int) (w : World) (hI : Rd w w.heap.size A len xs) :
    Calls Try.prog 5 #[.slice A len cap, adC a, .int .i64 m, .bool false] w fun e w' => e = .returned (.bool true) ∧ Below w.heap.size w w' := by
  have hml : len ≤ 9223372036854775807 := by unfold maxLen at hma; omega
  obtain ⟨Y, hY, hq, hbel⟩ := box_ad w a
  have HXL := Lib.hid hI.len
  have HRX := Lib.hid (fun W (hB : Below w.heap.size w W) => (hI.below hB).more hB.size)
  have HCA := Lib.hid hca
  have HMA := Lib.hid hma
  have HAL := Lib.hid ha
  have E1 := Lib.hid (show adC a = .agg (adL a).toArray from rfl)
  obtain ⟨C1, hC1⟩ : ∃ C, (adL a).toArray = C := ⟨_, rfl⟩
  rw [E1.out]
  rw [hC1] at hY ⊢
  rw [hC1] at E1
  have HC1 := Lib.hid hC1
  have HY := Lib.hid hY
  have HQ := Lib.hid hq
  have HB := Lib.hid hbel
  clear hI hY hq hbel hC1 ha hca hma
  go_enter Try.func5, Try.ntmps5
  go_wp2_with fail
  rw [HY.out]
  refine (awake_any _).mono ?_
  rintro e w1 ⟨rfl, hb1⟩
  have HB1 := Lib.hid (HB.out.trans (hb1.mono HB.out.size))
  have HQ1 := Lib.hid (HQ.out.below HQ.out.lt hb1)
  clear hb1
  by_cases hn : 3000 < len
  · have hn' : (3000 : Int) < (len : Int) := by omega
    have hnb : decide ((3000 : Int) < (len : Int)) = true := decide_eq_true hn'
    clear hn
    go_wp2_with fail
    refine (awake_any _).mono ?_
    rintro e w2 ⟨rfl, hb2⟩
    go_wp2_with fail
    go_ret
    exact ⟨rfl, HB1.out.trans (hb2.mono HB1.out.size)⟩
  · have hn' : ¬ (3000 : Int) < (len : Int) := by omega
    have hnb : decide ((3000 : Int) < (len : Int)) = false := decide_eq_false hn'
    have HN1 := Lib.hid (show len ≤ 3000 by omega)
    clear hn
    have HRD := Lib.hid (kread_any A len cap xs (by have := HN1.out; omega) HCA.out w1 (HRX.out w1 HB1.out))
    have HOK := Lib.hid (readK_ok xs)
    obtain ⟨k, hk⟩ : ∃ k, readK xs = k := ⟨_, rfl⟩
    have HK := Lib.hid hk
    rw [hk] at HRD HOK
    clear hk
    go_wp2_with fail
    refine HRD.out.mono ?_
    rintro e w2 ⟨rfl, hb2⟩
    have HB2 := Lib.hid (HB1.out.trans (hb2.mono HB1.out.size))
    have HQ2 := Lib.hid (HQ1.out.below HQ1.out.lt hb2)
    clear hb2 hn' hnb
    go_wp2_with (first
      | ((with_reducible show wpList _ _ _ (⟨none, .store 37 (.tmp 9) _, _, _, _, _⟩ :: _) _ _); refine wpList_storePk rfl (.tmp 9) _ rfl (by rfl) (k) HOK.out (by rfl) (by rfl) ?_; intro w3 hp_ hb_; have HP3 := Lib.hid hp_; have HB3 := Lib.hid (HB2.out.trans (hb_.mono HB2.out.size)); have HQ3 := Lib.hid (HQ2.out.below HQ2.out.lt hb_); clear hp_ hb_; generalize w2.heap.size = G at HP3 ⊢)
      | ((with_reducible show wpList _ _ _ (⟨some 27, _, _, _, _, _⟩ :: _) _ _); refine wpList_loadM (op := ⟨some 27, _, _, _, _, _⟩) 25 _ rfl (by rfl) w.heap.size 0 (by rfl) (adL a) (Blk_10.range HQ3.out) _ Try.underlying25 rfl (sizeAdL HAL.out) ?_; rw [HC1.out]))
    have TO := Lib.hid (nto_any HAL.out (m := m) (by have := HN1.out; omega) HCA.out HMA.out w3 (HRX.out w3 HB3.out))
    rw [E1.out] at TO
    refine TO.out.mono ?_
    rintro e w4 ⟨hn, hy, hb4⟩
    have HB4 := Lib.hid (HB3.out.trans (hb4.mono HB3.out.size))
    have HP4 := Lib.hid (HP3.out.below HP3.out.lt hb4)
    have HQ4 := Lib.hid (HQ3.out.below HQ3.out.lt hb4)
    obtain ⟨v4, ev4, hev⟩ : ∃ (v : Value) (ev : Int), e = .returned (.tuple #[v, .int .i64 ev]) := by
      cases hc : mayN (readK xs) a m with
      | false => exact ⟨_, _, hn hc⟩
      | true =>
        obtain ⟨v, e1, _⟩ := hy hc
        exact ⟨v, 0, e1⟩
    subst hev
    clear hn hy hb4 TO
    have FR := Lib.hid (nfrom_any HAL.out (m := m) (by have := HN1.out; omega) HCA.out HMA.out w4 (HRX.out w4 HB4.out))
    rw [E1.out] at FR
    go_wp2_with (((with_reducible show wpList _ _ _ (⟨some 36, _, _, _, _, _⟩ :: _) _ _); refine wpList_loadM (op := ⟨some 36, _, _, _, _, _⟩) 25 _ rfl (by rfl) w.heap.size 0 (by rfl) (adL a) (Blk_10.range HQ4.out) _ Try.underlying25 rfl (sizeAdL HAL.out) ?_; rw [HC1.out]))
    refine FR.out.mono ?_
    rintro e w5 ⟨hn, hy, hb5⟩
    have HB5 := Lib.hid (HB4.out.trans (hb5.mono HB4.out.size))
    have HP5 := Lib.hid (HP4.out.below HP4.out.lt hb5)
    clear hb5 FR
    cases hc : mayN (readK xs) a m with
    | false =>
      obtain rfl := hn hc
      clear hn hy hc
      go_wp2_with fail
      go_ret
      exact ⟨rfl, HB5.out⟩
    | true =>
      obtain ⟨vx, rfl, hox⟩ := hy hc
      obtain ⟨hk0, hof, m0, m1⟩ := mayN_yes hc
      obtain ⟨z, six, n, p, u, hA⟩ := at_fine hk0
      obtain ⟨ho, _, _⟩ := hA.may hc
      obtain ⟨n', t1, t2, t3, t4, t5⟩ := hA.turn HAL.out ho m0 m1 false
      have hr := hA.right HAL.out m0 m1 false t5
      obtain ⟨hsg, hht⟩ := seg_cut hA
      obtain ⟨hsg', _⟩ := seg_cut t1
      have hxl := hA.x
      have hnl := hA.len a m false
      obtain ⟨e1, e2, _⟩ := hA.en
      rw [HK.out] at e1 e2 hk0
      rw [t2, t3] at hsg'
      obtain ⟨S, hS⟩ : ∃ S, p + n.head = S := ⟨_, rfl⟩
      obtain ⟨E, hE⟩ : ∃ E, p + n.total = E := ⟨_, rfl⟩
      obtain ⟨l, hl⟩ : ∃ l, n.total - n.head = l := ⟨_, rfl⟩
      rw [hS] at e2 hsg hsg'
      rw [hE] at e1 hxl hnl
      rw [hl] at hsg hsg'
      have hSE : S + l = E := by omega
      have hlE : E ≤ len := by rw [← HXL.out]; exact hxl
      obtain ⟨Ax, cx, rfl, hx1, hx2, _⟩ := hox.formN hnl
      have HSE := Lib.hid hSE
      have HLE := Lib.hid (show E ≤ len ∧ len ≤ 3000 ∧ len ≤ cap from ⟨hlE, HN1.out, HCA.out⟩)
      have HCX := Lib.hid hx1
      have HLX := Lib.hid hnl
      have HOX := Lib.hid hox
      have RDX := Lib.hid (t4 ▸ kread_any Ax E cx (natL xs a m false) (by have := HN1.out; omega) hx1 w5 (hox.rdN hnl).2.2)
      have HOD := Lib.hid (pkN_ok (readK_ok xs) HAL.out m false)
      rw [HK.out] at RDX HOD
      have HKC := Lib.hid (fun W g (h : Blk W 37 g (pkL k)) => show W.cell? ⟨g, 0, none⟩ = some (.int .i64 0) ∧ W.cell? ⟨g, 40, none⟩ = some (.int .i64 (S : Int)) ∧ W.cell? ⟨g, 41, none⟩ = some (.int .i64 (E : Int)) from by
        obtain ⟨q1, _, _, q2, q3⟩ := pk_cells h HOK.out
        exact ⟨hk0 ▸ q1, e2 ▸ q2, e1 ▸ q3⟩)
      have HQC := Lib.hid (fun W g (h : Blk W 37 g (pkL (pkN k a m false))) => show W.cell? ⟨g, 0, none⟩ = some (.int .i64 0) ∧ W.cell? ⟨g, 40, none⟩ = some (.int .i64 (S : Int)) ∧ W.cell? ⟨g, 41, none⟩ = some (.int .i64 (E : Int)) from by
        obtain ⟨q1, _, _, q2, q3⟩ := pk_cells h HOD.out
        exact ⟨show W.cell? ⟨g, 0, none⟩ = some (.int .i64 0) from hk0 ▸ (show W.cell? ⟨g, 0, none⟩ = some (.int .i64 k.kind) from q1), e2 ▸ (show W.cell? ⟨g, 40, none⟩ = some (.int .i64 k.sg) from q2), e1 ▸ (show W.cell? ⟨g, 41, none⟩ = some (.int .i64 k.en) from q3)⟩)
      obtain ⟨R, hR⟩ : ∃ R, rightS six k.t.s.b k.t.d.b u (segN (z.drop p) n) = R := ⟨_, rfl⟩
      have R1 := Lib.hid (fun W (h : Rd W W.heap.size A len xs) => show Calls Try.prog 16 #[adC k.t.s, adC k.t.d, .int .i64 k.t.pr, .slice (cutA A cap S) l (cap - S)] W fun e w' => e = .returned (.bool R) ∧ Below W.heap.size W w' from by
        have c := h.cut (l := S) (n := l) (by omega) cap HCA.out
        rw [hsg] at c
        have := right_at hA (by have := HN1.out; rw [HXL.out]; omega) (A := cutA A cap S) (cap := cap - S) W (by rw [hl]; exact c) (by rw [hl]; have := HCA.out; omega)
        rw [HK.out, hl, hR] at this
        exact this)
      have R2 := Lib.hid (fun W (h : Rd W W.heap.size Ax E (natL xs a m false)) => show Calls Try.prog 16 #[adC (pkN k a m false).t.s, adC (pkN k a m false).t.d, .int .i64 (pkN k a m false).t.pr, .slice (cutA Ax cx S) l (cx - S)] W fun e w' => e = .returned (.bool R) ∧ Below W.heap.size W w' from by
        have c := h.cut (l := S) (n := l) (by omega) cx hx1
        rw [hsg'] at c
        have := right_at t1 (by have := HN1.out; rw [hnl]; omega) (A := cutA Ax cx S) (cap := cx - S) W (by rw [t2, t3, hl]; exact c) (by rw [t2, t3, hl]; omega)
        rw [t4, hr, HK.out, t2, t3, hl, hR] at this
        exact this)
      have CUT1 := Lib.hid (fun W => run_cut8 A len cap S l (S : Int) (E : Int) rfl (by omega) (by have := HCA.out; omega) W)
      have CUT2 := Lib.hid (fun W => run_cut8 Ax E cx S l (S : Int) (E : Int) rfl (by omega) (by omega) W)
      have s1 : ((S : Int) != (S : Int)) = false := by simp
      have s2 : ((E : Int) != (E : Int)) = false := by simp
      have s3 : (S != S) = false := by simp
      have s4 : (E != E) = false := by simp
      clear hn hy hc hk0 hof m0 m1 hA ho t1 t2 t3 t4 t5 hr hsg hht hsg' hxl hnl e1 e2 hS hE hl hSE hlE hx1 hx2 hox hR
      go_wp2_with fail
      refine RDX.out.mono ?_
      rintro e w6 ⟨rfl, hb6⟩
      have HB6 := Lib.hid (HB5.out.trans (hb6.mono HB5.out.size))
      have HP6 := Lib.hid (HP5.out.below HP5.out.lt hb6)
      have HOX6 := Lib.hid (HOX.out.below hb6)
      clear hb6
      go_wp2_with (first
        | ((with_reducible show wpList _ _ _ (⟨none, .store 37 (.tmp 12) _, _, _, _, _⟩ :: _) _ _); refine wpList_storePk rfl (.tmp 12) _ rfl (by rfl) (pkN k a m false) HOD.out (by rfl) (by rfl) ?_; intro w7 hp_ hb_; have HD7 := Lib.hid hp_; have HB7 := Lib.hid (HB6.out.trans (hb_.mono HB6.out.size)); have HP7 := Lib.hid (HP6.out.below HP6.out.lt hb_); have HOX7 := Lib.hid (HOX6.out.below hb_); clear hp_ hb_; generalize w6.heap.size = G12 at HD7 ⊢; obtain ⟨c0, c40, c41⟩ := HKC.out w7 G HP7.out; obtain ⟨d0, d40, d41⟩ := HQC.out w7 G12 HD7.out)
        | ((with_reducible show wpList _ _ _ (⟨some 71, _, _, _, _, _⟩ :: _) _ _); refine wpList_loadTu (op := ⟨some 71, _, _, _, _, _⟩) _ rfl (by rfl) G 1 (by rfl) k.t HOK.out (Blk_10.mid HP7.out (pre := [.int .i64 k.kind]) (post := pkE k) rfl rfl) ?_)
        | ((with_reducible show wpList _ _ _ (⟨none, .store 35 (.tmp 13) _, _, _, _, _⟩ :: _) _ _); refine wpList_storeNewG (op := ⟨none, .store 35 (.tmp 13) _, _, _, _, _⟩) rfl 35 _ _ rfl (by rfl) (tuL k.t) (by rfl) (by rw [tuL_len HOK.out]; rfl) (sizeTuL HOK.out) (tuL_one _) ?_; intro w8 hp_ hb_ hz_; clear hz_; have HT8 := Lib.hid hp_; have HB8 := Lib.hid (HB7.out.trans (hb_.mono HB7.out.size)); have HP8 := Lib.hid (HP7.out.below HP7.out.lt hb_); have HD8 := Lib.hid (HD7.out.below HD7.out.lt hb_); have HOX8 := Lib.hid (HOX7.out.below hb_); clear hp_ hb_ c0 c40 c41 d0 d40 d41; generalize w7.heap.size = G13 at HT8 ⊢)
        | ((with_reducible show wpList _ _ _ (⟨some 73, _, _, _, _, _⟩ :: _) _ _); refine wpList_loadTu (op := ⟨some 73, _, _, _, _, _⟩) _ rfl (by rfl) G12 1 (by rfl) (pkN k a m false).t HOD.out (Blk_10.mid HD8.out (pre := [.int .i64 k.kind]) (post := pkE (pkN k a m false)) rfl rfl) ?_)
        | ((with_reducible show wpList _ _ _ (⟨none, .store 35 (.tmp 14) _, _, _, _, _⟩ :: _) _ _); refine wpList_storeNewG (op := ⟨none, .store 35 (.tmp 14) _, _, _, _, _⟩) rfl 35 _ _ rfl (by rfl) (tuL (pkN k a m false).t) (by rfl) (by rw [tuL_len HOD.out]; rfl) (sizeTuL HOD.out) (tuL_one _) ?_; intro w9 hp_ hb_ hz_; clear hz_; have HU9 := Lib.hid hp_; have HB9 := Lib.hid (HB8.out.trans (hb_.mono HB8.out.size)); have HP9 := Lib.hid (HP8.out.below HP8.out.lt hb_); have HD9 := Lib.hid (HD8.out.below HD8.out.lt hb_); have HT9 := Lib.hid (HT8.out.below HT8.out.lt hb_); have HOX9 := Lib.hid (HOX8.out.below hb_); clear hp_ hb_; generalize w8.heap.size = G14 at HU9 ⊢))
      clear s1 s2 s3 s4
      have HRXX := Lib.hid (fun W (h : Below w9.heap.size w9 W) => HRX.out W (HB9.out.trans (h.mono HB9.out.size)))
      have HRYY := Lib.hid (fun W (h : Below w9.heap.size w9 W) => ((HOX9.out.below h).rdN HLX.out).2.2)
      have HKC9 := Lib.hid (fun W (h : Below w9.heap.size w9 W) => HKC.out W G (HP9.out.below HP9.out.lt h))
      have HQC9 := Lib.hid (fun W (h : Below w9.heap.size w9 W) => HQC.out W G12 (HD9.out.below HD9.out.lt h))
      have TN1 := Lib.hid (fun W (h : Below w9.heap.size w9 W) => (tu_num (HT9.out.below HT9.out.lt h) HOK.out).1)
      have TN2 := Lib.hid (fun W (h : Below w9.heap.size w9 W) => (tu_num (HU9.out.below HU9.out.lt h) HOD.out).1)
      refine wp_region_held_drew (S := fun W => Below w9.heap.size w9 W) (by kernel_rfl) ((Below.refl _ _).drew) (fun hHeld => ?_)
      obtain ⟨X, hX⟩ : ∃ X, w9.drew = X := ⟨_, rfl⟩
      rw [hX] at hHeld ⊢
      clear hX
      refine tk 0 74 (.pointer (some ⟨G13, 0, none⟩)) rfl hHeld ?_
      simp only [Act.put, sA, sZ, sS]
      refine tkY 1 75 (.agg (adL k.t.s).toArray) rfl (yieldsIf_load_mid (by rfl) 25 _ rfl G13 0 rfl (adL k.t.s) _ (fun W hW => tu_src (HT9.out.below HT9.out.lt hW)) Try.underlying25 rfl (sizeAdL HOK.out.s)) hHeld ?_
      simp only [Act.put, sA, sZ, sS]
      refine tk 2 76 (.pointer (some ⟨G13, 17, none⟩)) rfl hHeld ?_
      simp only [Act.put, sA, sZ, sS]
      refine tkY 3 77 (.agg (adL k.t.d).toArray) rfl (yieldsIf_load_mid (by rfl) 25 _ rfl G13 17 rfl (adL k.t.d) _ (fun W hW => tu_dst (HT9.out.below HT9.out.lt hW) HOK.out) Try.underlying25 rfl (sizeAdL HOK.out.d)) hHeld ?_
      simp only [Act.put, sA, sZ, sS]
      refine tk 4 78 (.pointer (some ⟨G13, 34, none⟩)) rfl hHeld ?_
      simp only [Act.put, sA, sZ, sS]
      refine tkY 5 79 (.int .i64 k.t.pr) rfl (Or.inl ⟨by rfl, fun W hW => by have hc := TN1.out W hW; go_simp⟩) hHeld ?_
      simp only [Act.put, sA, sZ, sS]
      refine tk 6 80 (.slice A len cap) rfl hHeld ?_
      simp only [Act.put, sA, sZ, sS]
      refine tk 7 81 (.pointer (some ⟨G, 40, none⟩)) rfl hHeld ?_
      simp only [Act.put, sA, sZ, sS]
      refine tkY 8 82 (.int .i64 (S : Int)) rfl (Or.inl ⟨by rfl, fun W hW => by have hc := (HKC9.out W hW).2.1; go_simp⟩) hHeld ?_
      simp only [Act.put, sA, sZ, sS]
      refine tk 9 83 (.pointer (some ⟨G, 41, none⟩)) rfl hHeld ?_
      simp only [Act.put, sA, sZ, sS]
      refine tkY 10 84 (.int .i64 (E : Int)) rfl (Or.inl ⟨by rfl, fun W hW => by have hc := (HKC9.out W hW).2.2; go_simp⟩) hHeld ?_
      simp only [Act.put, sA, sZ, sS]
      refine tkY 11 85 (.slice (cutA A cap S) l (cap - S)) rfl (Or.inl ⟨by rfl, fun W _ => by have hs := CUT1.out W; go_simp⟩) hHeld ?_
      simp only [Act.put, sA, sZ, sS]
      refine tk 13 87 (.pointer (some ⟨G14, 0, none⟩)) rfl hHeld ?_
      simp only [Act.put, sA, sZ, sS]
      refine tkY 14 88 (.agg (adL (pkN k a m false).t.s).toArray) rfl (yieldsIf_load_mid (by rfl) 25 _ rfl G14 0 rfl (adL (pkN k a m false).t.s) _ (fun W hW => tu_src (HU9.out.below HU9.out.lt hW)) Try.underlying25 rfl (sizeAdL HOD.out.s)) hHeld ?_
      simp only [Act.put, sA, sZ, sS]
      refine tk 15 89 (.pointer (some ⟨G14, 17, none⟩)) rfl hHeld ?_
      simp only [Act.put, sA, sZ, sS]
      refine tkY 16 90 (.agg (adL (pkN k a m false).t.d).toArray) rfl (yieldsIf_load_mid (by rfl) 25 _ rfl G14 17 rfl (adL (pkN k a m false).t.d) _ (fun W hW => tu_dst (HU9.out.below HU9.out.lt hW) HOD.out) Try.underlying25 rfl (sizeAdL HOD.out.d)) hHeld ?_
      simp only [Act.put, sA, sZ, sS]
      refine tk 17 91 (.pointer (some ⟨G14, 34, none⟩)) rfl hHeld ?_
      simp only [Act.put, sA, sZ, sS]
      refine tkY 18 92 (.int .i64 (pkN k a m false).t.pr) rfl (Or.inl ⟨by rfl, fun W hW => by have hc := TN2.out W hW; go_simp⟩) hHeld ?_
      simp only [Act.put, sA, sZ, sS]
      refine tk 19 93 (.slice Ax E cx) rfl hHeld ?_
      simp only [Act.put, sA, sZ, sS]
      refine tk 20 94 (.pointer (some ⟨G12, 40, none⟩)) rfl hHeld ?_
      simp only [Act.put, sA, sZ, sS]
      refine tkY 21 95 (.int .i64 (S : Int)) rfl (Or.inl ⟨by rfl, fun W hW => by have hc := (HQC9.out W hW).2.1; go_simp⟩) hHeld ?_
      simp only [Act.put, sA, sZ, sS]
      refine tk 22 96 (.pointer (some ⟨G12, 41, none⟩)) rfl hHeld ?_
      simp only [Act.put, sA, sZ, sS]
      refine tkY 23 97 (.int .i64 (E : Int)) rfl (Or.inl ⟨by rfl, fun W hW => by have hc := (HQC9.out W hW).2.2; go_simp⟩) hHeld ?_
      simp only [Act.put, sA, sZ, sS]
      refine tkY 24 98 (.slice (cutA Ax cx S) l (cx - S)) rfl (Or.inl ⟨by rfl, fun W _ => by have hs := CUT2.out W; go_simp⟩) hHeld ?_
      simp only [Act.put, sA, sZ, sS]
      refine wpAnyH_ready (rs := [12]) (by kernel_rfl) (by simp) (AllReadyH.cons (o := ⟨some 86, _, _, _, _, _⟩) rfl (fun K hK => ?_) AllReadyH.nil)
      go_simp
      refine (R1.out _ (HRXX.out _ hHeld)).mono ?_
      rintro e wa ⟨rfl, hba⟩
      refine hK.out _ _ (hHeld.trans (hba.mono hHeld.size)) (fun hHeld => ?_)
      clear hK K hba
      refine wpAnyH_ready (rs := [25]) (by kernel_rfl) (by simp) (AllReadyH.cons (o := ⟨some 99, _, _, _, _, _⟩) rfl (fun K hK => ?_) AllReadyH.nil)
      go_simp
      refine (R2.out _ (HRYY.out _ hHeld)).mono ?_
      rintro e wb ⟨rfl, hbb⟩
      refine hK.out _ _ (hHeld.trans (hbb.mono hHeld.size)) (fun hHeld => ?_)
      clear hK K hbb
      have rr : (R == R) = true := by simp
      refine tk 26 100 (.bool true) rfl hHeld ?_
      simp only [Act.put, sA, sZ, sS]
      refine tk 27 8 (.bool true) rfl hHeld ?_
      simp only [Act.put, sA, sZ, sS]
      refine wpAnyH_done (by kernel_rfl) ?_ _
      go_wp2_with fail
      go_ret
      exact ⟨rfl, HB9.out.trans (hHeld.mono HB9.out.size)⟩
theorem natRight_walk (A : Option Addr) (len cap : Nat) (xs : List UInt8) (hca : len ≤ cap) (hma : cap ≤ maxLen) (a : Ad) (ha : a.b.length = 16) (m : Int) (_ : -9223372036854775808 ≤ m) (_ : m ≤ 9223372036854775807) (dst : Bool) (w : World) (hI : Rd w w.heap.size A len xs) :
    Calls Try.prog 5 #[.slice A len cap, adC a, .int .i64 m, .bool dst] w fun e w' => e = .returned (.bool true) ∧ Below w.heap.size w w' := by
  cases dst
  · exact natRight_s A len cap xs hca hma a ha m w hI
  · exact natRight_d A len cap xs hca hma a ha m w hI

theorem natRight_walks : WalksTrue 5 Try.f5 := by
  intro H enc W base args ds p hval hA
  rw [Try.params5] at hA hval
  obtain ⟨v0, vs0, d0, ds0, p0, q0, hargs, rfl, rfl, h0, r0⟩ := trodAll_cons hA
  obtain ⟨v1, vs1, d1, ds1, p1, q1, rfl, rfl, rfl, h1, r1⟩ := trodAll_cons r0
  obtain ⟨v2, vs2, d2, ds2, p2, q2, rfl, rfl, rfl, h2, r2⟩ := trodAll_cons r1
  obtain ⟨v3, vs3, d3, ds3, p3, q3, rfl, rfl, rfl, h3, r3⟩ := trodAll_cons r2
  obtain ⟨rfl, rfl, rfl⟩ := trodAll_nil r3
  obtain rfl : args = #[v0, v1, v2, v3] := by cases args; simp_all
  obtain ⟨A0, len0, cap0, xs0, rfl, hc0, hm0, hI0⟩ := open_bytes (hval 0 22 v0 rfl rfl) h0
  obtain ⟨d1_, rfl, l1⟩ := open_ad (hval 1 25 v1 rfl rfl) h1
  obtain ⟨a2, rfl, rfl, rfl, w2⟩ := open_int Try.underlying3 (hval 2 3 v2 rfl rfl) h2
  obtain ⟨g2a, g2b⟩ := range_i64 w2
  obtain ⟨a3, rfl, rfl, rfl⟩ := open_bool Try.underlying4 (hval 3 4 v3 rfl rfl) h3
  exact natRight_walk A0 len0 cap0 xs0 hc0 hm0 d1_ l1 a2 g2a g2b a3 W hI0

theorem natRight_said : Rows.NatRightSaid :=
  OpenClaim.holds_of_wide 5 Try.f5 rfl rfl rfl rfl rfl rfl rfl ⟨rfl, rfl, rfl, rfl, rfl⟩ rfl rfl rfl rfl rfl (by kernel_rfl) Try.func5 (by kernel_rfl)
    (of_decide_eq_true (by kernel_rfl)) (by unfold Func.isWrapper; first | (rw [if_pos (by decide +kernel)]; kernel_rfl) | (rw [if_neg (by decide +kernel)]; exact ⟨rfl, rfl⟩))
    (fun os started H enc _ => law_lift (s := Rows.natRightSpec) Try.func5 (by kernel_rfl) rfl rfl (by intro H ds hd; match ds, hd with | [_, _, _, _], _ => exact ⟨rfl, rfl, rfl⟩) (by kernel_rfl) natRight_walks os started H enc
      (ChangeSpec.witness6 (enc := enc) (C := Try.checked) false ⟨#[], #[.slice none 0 0, .agg #[.bool false, .int .u8 0, .int .u8 0, .int .u8 0, .int .u8 0, .int .u8 0, .int .u8 0, .int .u8 0, .int .u8 0, .int .u8 0, .int .u8 0, .int .u8 0, .int .u8 0, .int .u8 0, .int .u8 0, .int .u8 0, .int .u8 0], .int .i64 0, .bool false], []⟩ 8 (by kernel_rfl) (by kernel_rfl) (by kernel_rfl) (by kernel_rfl)))

end Go.Proofs.Ytkmcopenflakkaa
