/-
  packet.fine: a frame is read, or reading gives up by a panic.
-/
import Derived.Test.YtkmcopenflakkaaTK
import Derived.Test.YtkmcopenflakkaaKPNet
import Derived.Test.YtkmcopenflakkaaKRead
namespace Go.Proofs.Ytkmcopenflakkaa
set_option maxRecDepth 100000
open Go.RowKit Go.Lib
theorem net_split {xs rest : List UInt8} {L : Lk} {p : Nat} (h0 : (rdOf xs).2 = 0) (hL : (rdOf xs).1 = L) (hp : atK xs = p) (hr : xs.drop p = rest) {RA : Option Addr} {rl rc : Nat} (hrl : rl ≤ 1000000) (hrc : rl ≤ rc) (hcm : rc ≤ maxLen) (hlen : rest.length = rl) :
    (∃ k : Int, k ≠ 0 ∧ readK xs = kindK k ∧ ∀ W : World, Rd W W.heap.size RA rl rest → Calls Try.prog 60 #[.int .i64 L.ty, .slice RA rl rc] W fun e w' => e = .panicked (gave k) ∧ Below W.heap.size W w') ∨
    (∃ n : Nt, n.e = 0 ∧ n.Fits rl ∧ readK xs = behind p rest n ∧ ∀ W : World, Rd W W.heap.size RA rl rest → Calls Try.prog 60 #[.int .i64 L.ty, .slice RA rl rc] W fun e w' => e = .returned (nwC n) ∧ Below W.heap.size W w') := by
  subst hlen
  by_cases h4 : L.ty = 2048
  · have hk : readK xs = behind p rest (nt4 rest) := by unfold readK; rw [if_neg (by omega), if_pos (by rw [hL]; exact h4), hp, hr]
    rw [h4]
    by_cases he : (nt4 rest).e = 0
    · exact .inr ⟨nt4 rest, he, nt4_fits rest, hk, fun W hW => netof_4 RA _ rc rest hrl hrc hcm he W hW⟩
    · exact .inl ⟨3, by decide, hk.trans (behind_3 he), fun W hW => netof_4no RA _ rc rest hrl hrc hcm he W hW⟩
  · by_cases h6 : L.ty = 34525
    · have hk : readK xs = behind p rest (nt6 rest) := by unfold readK; rw [if_neg (by omega), if_neg (by rw [hL]; exact h4), if_pos (by rw [hL]; exact h6), hp, hr]
      rw [h6]
      by_cases he : (nt6 rest).e = 0
      · exact .inr ⟨nt6 rest, he, nt6_fits rest, hk, fun W hW => netof_6 RA _ rc rest hrl hrc hcm he W hW⟩
      · exact .inl ⟨3, by decide, hk.trans (behind_3 he), fun W hW => netof_6no RA _ rc rest hrl hrc hcm he W hW⟩
    · exact .inl ⟨2, by decide, by unfold readK; rw [if_neg (by omega), if_neg (by rw [hL]; exact h4), if_neg (by rw [hL]; exact h6)], fun W _ => netof_no L.ty h4 h6 RA _ rc W⟩
/-- What reading comes to. -/
def FineGave (p : Pk) (e : Ending) : Prop := (p.kind = 0 → e = .returned (pkC p)) ∧ (p.kind ≠ 0 → e = .panicked (gave p.kind))
theorem fine_kind {k : Int} (hk : k ≠ 0) : FineGave (kindK k) (.panicked (gave k)) := ⟨fun h => absurd h hk, fun _ => rfl⟩
theorem fine_ok {p : Pk} (h : p.kind = 0) : FineGave p (.returned (pkC p)) := ⟨fun _ => rfl, fun h2 => absurd h h2⟩
theorem built_pk0 (t : Tu) (fl net sg en : Int) (h : t.Ok) : Try.prog.built 37 [(0, .int .i64 0), (1, tuC t), (2, .int .i64 fl), (3, .int .i64 net), (4, .int .i64 sg), (5, .int .i64 en)] = some (pkL ⟨0, t, fl, net, sg, en⟩).toArray := by
  obtain ⟨⟨s6, sb⟩, ⟨d6, db⟩, pr, sp, dp⟩ := t
  obtain ⟨a0, a1, a2, a3, a4, a5, a6, a7, a8, a9, a10, a11, a12, a13, a14, a15, rfl⟩ := sixteen h.s
  obtain ⟨b0, b1, b2, b3, b4, b5, b6, b7, b8, b9, b10, b11, b12, b13, b14, b15, rfl⟩ := sixteen h.d
  kernel_rfl
set_option maxHeartbeats 40000000 in
theorem fine_1 (A : Option Addr) (len cap : Nat) (xs : List UInt8) (hlen : len ≤ 100000) (hcap : len ≤ cap) (hcm : cap ≤ maxLen) (h0 : (rdOf xs).2 ≠ 0) (w : World) (hI : Rd w w.heap.size A len xs) :
    Calls Try.prog 41 #[.slice A len cap] w fun e w' => FineGave (readK xs) e ∧ Below w.heap.size w w' := by
  obtain ⟨Z, hZ⟩ : ∃ Z : World, w.alloc (.cells (pkL (kindK 0)).toArray 37) = Z := ⟨_, rfl⟩
  have hP0 : Blk Z 37 w.heap.size (pkL (kindK 0)) := by rw [← hZ]; exact Blk_10.new w _ _
  have hB0 : Below w.heap.size w Z := by rw [← hZ]; exact (Below.refl w.heap.size w).alloc (Nat.le_refl _) _
  rw [← zeroPk] at hZ
  have HZ := Lib.hid hZ
  have HP0 := Lib.hid hP0
  have HB0 := Lib.hid hB0
  have hR := read_any_7 A len cap xs (by omega) hcap hcm Z ((hI.below hB0).more hB0.size)
  unfold ReadGave_7 at hR
  have H6 := Lib.hid (show (rdOf xs).1.Six from (rdOf_six xs _ _ rfl).1)
  have hk : readK xs = kindK 1 := if_pos h0
  rw [hk]
  obtain ⟨L, hL⟩ : ∃ L, (rdOf xs).1 = L := ⟨_, rfl⟩
  obtain ⟨E, hE⟩ : ∃ E, (rdOf xs).2 = E := ⟨_, rfl⟩
  rw [hL, hE] at hR
  rw [hL] at H6
  rw [hE] at h0
  have bE : ((E : Int) == 0) = false := by simp; omega
  have bE2 : (E == 0) = false := by simp [h0]
  have HR := Lib.hid hR
  clear hZ hP0 hB0 hR hL hE hI hk h0
  go_enter Try.func41, Try.ntmps41
  go_wp2_with fail
  rw [HZ.out]
  refine HR.out.mono ?_
  rintro e w1 ⟨tv, rfl, hown, hb1⟩
  obtain ⟨At, mt, ct, rfl, q1, q2, q3, q4, q5⟩ := hown.sl
  clear q1 q2 q3 q4 q5
  have HB1 := Lib.hid (HB0.out.trans (hb1.mono HB0.out.size))
  have HP1 := Lib.hid (HP0.out.below HP0.out.lt hb1)
  clear hb1 hown
  go_wp2_with (((with_reducible show wpList _ _ _ (⟨none, .store 46 (.tmp 3) (.tmp 12), _, _, _, _⟩ :: _) _ _); refine wpList_storeNewG (op := ⟨none, .store 46 (.tmp 3) (.tmp 12), _, _, _, _⟩) rfl 46 _ _ rfl (by rfl) (lkL L (.slice At mt ct)) (by rfl) (by rw [lkL_len H6.out]; rfl) (sizeLkL H6.out _) (lkL_one L _ rfl) ?_; intro w2 hl2 hb2 hz2; clear hz2; have HB2 := Lib.hid (HB1.out.trans (hb2.mono HB1.out.size)); have HP2 := Lib.hid (HP1.out.below HP1.out.lt hb2); have HK2 := Lib.hid hl2; clear hl2 hb2))
  refine (need_no 1 _).mono ?_
  rintro e w6 ⟨rfl, rfl⟩
  exact ⟨rfl, fine_kind (by decide), HB2.out⟩
set_option maxHeartbeats 40000000 in
theorem fine_2 (A : Option Addr) (len cap : Nat) (xs : List UInt8) (hlen : len ≤ 100000) (hcap : len ≤ cap) (hcm : cap ≤ maxLen) (h0 : (rdOf xs).2 = 0) {L : Lk} (hL : (rdOf xs).1 = L) {p : Nat} (hp : atK xs = p) {k : Int} (hk0 : k ≠ 0) (hk : readK xs = kindK k) {rl rc : Nat} {RA : Option Addr} (hRA : cutA A cap p = RA) (hrl : len - p = rl) (hrc : cap - p = rc) (hM : ∀ W : World, Rd W W.heap.size RA rl (xs.drop p) → Calls Try.prog 60 #[.int .i64 L.ty, .slice RA rl rc] W fun e w' => e = .panicked (gave k) ∧ Below W.heap.size W w') (w : World) (hI : Rd w w.heap.size A len xs) :
    Calls Try.prog 41 #[.slice A len cap] w fun e w' => FineGave (readK xs) e ∧ Below w.heap.size w w' := by
  obtain ⟨Z, hZ⟩ : ∃ Z : World, w.alloc (.cells (pkL (kindK 0)).toArray 37) = Z := ⟨_, rfl⟩
  have hP0 : Blk Z 37 w.heap.size (pkL (kindK 0)) := by rw [← hZ]; exact Blk_10.new w _ _
  have hB0 : Below w.heap.size w Z := by rw [← hZ]; exact (Below.refl w.heap.size w).alloc (Nat.le_refl _) _
  rw [← zeroPk] at hZ
  have HZ := Lib.hid hZ
  have HP0 := Lib.hid hP0
  have HB0 := Lib.hid hB0
  have hR := read_any_7 A len cap xs (by omega) hcap hcm Z ((hI.below hB0).more hB0.size)
  unfold ReadGave_7 at hR
  have H6 := Lib.hid (show (rdOf xs).1.Six from (rdOf_six xs _ _ rfl).1)
  rw [hk]
  obtain ⟨a1, a2, a3, a4, _⟩ := atK_ok h0
  rw [hL, h0] at hR
  rw [hL] at H6 a1
  rw [hp] at a1 a2 a3 a4
  rw [hI.len] at a2
  have HRR := Lib.hid (hI.from (l := p) a2 cap hcap)
  have hcut := fun W => run_from8 A len cap p a2 W
  have hdl : (xs.drop p).length = len - p := by rw [List.length_drop, hI.len]
  have hrcl : rl ≤ rc := by omega
  have hrll : rl ≤ 100000 := by omega
  have hrcm : rc ≤ maxLen := by omega
  rw [hrl] at hdl
  rw [hRA, hrl, hrc] at hcut
  rw [hRA, hrl] at HRR
  obtain ⟨rest, hrest⟩ : ∃ r, xs.drop p = r := ⟨_, rfl⟩
  rw [hrest] at HRR hdl
  have HCUT := Lib.hid hcut
  have HTY := Lib.hid (fun tv => (lk_ty L H6.out tv).1)
  have HAT := Lib.hid (fun tv => show (lkL L tv)[14]? = some (.int .i64 (p : Int)) from a1 ▸ (lk_ty L H6.out tv).2)
  have HR := Lib.hid hR
  rw [hrest] at hM
  have HM := Lib.hid hM
  clear hZ hP0 hB0 hR hL hI hk h0 hM hRA hrl hrc hrest hdl a1 a3 hp hcut
  go_enter Try.func41, Try.ntmps41
  go_wp2_with fail
  rw [HZ.out]
  refine HR.out.mono ?_
  rintro e w1 ⟨tv, rfl, hown, hb1⟩
  obtain ⟨At, mt, ct, rfl, q1, q2, q3, q4, q5⟩ := hown.sl
  clear q1 q2 q3 q4 q5
  have HB1 := Lib.hid (HB0.out.trans (hb1.mono HB0.out.size))
  have HP1 := Lib.hid (HP0.out.below HP0.out.lt hb1)
  clear hb1 hown
  go_wp2_with (((with_reducible show wpList _ _ _ (⟨none, .store 46 (.tmp 3) (.tmp 12), _, _, _, _⟩ :: _) _ _); refine wpList_storeNewG (op := ⟨none, .store 46 (.tmp 3) (.tmp 12), _, _, _, _⟩) rfl 46 _ _ rfl (by rfl) (lkL L (.slice At mt ct)) (by rfl) (by rw [lkL_len H6.out]; rfl) (sizeLkL H6.out _) (lkL_one L _ rfl) ?_; intro w2 hl2 hb2 hz2; clear hz2; have HB2 := Lib.hid (HB1.out.trans (hb2.mono HB1.out.size)); have HP2 := Lib.hid (HP1.out.below HP1.out.lt hb2); have HK2 := Lib.hid hl2; clear hl2 hb2))
  refine (need_yes 1 _).mono ?_
  rintro e w6 ⟨rfl, rfl⟩
  go_wp2_with fail
  have HT13 := Lib.hid (fun W (hW : Below w2.heap.size w2 W) => Blk_10.cell (HK2.out.below HK2.out.lt hW) (HTY.out (.slice At mt ct)))
  have HT14 := Lib.hid (fun W (hW : Below w2.heap.size w2 W) => Blk_10.cell (HK2.out.below HK2.out.lt hW) (HAT.out (.slice At mt ct)))
  have RN := Lib.hid (fun W (hW : Below w2.heap.size w2 W) => HM.out W ((HRR.out.below (HB2.out.trans (hW.mono HB2.out.size))).more (Nat.le_trans HB2.out.size hW.size)))
  refine wp_region_held_drew (S := fun W => Below w2.heap.size w2 W) (by kernel_rfl) ((Below.refl _ _).drew) (fun hHeld => ?_)
  obtain ⟨Y, hY⟩ : ∃ Y, w2.drew = Y := ⟨_, rfl⟩
  rw [hY] at hHeld ⊢
  clear hY
  refine tk 0 17 (.pointer (some ⟨w1.heap.size, 13, none⟩)) rfl hHeld ?_
  simp only [Act.put, sA, sZ, sS]
  refine tkY 1 18 (.int .i64 L.ty) rfl (Or.inl ⟨by rfl, fun W hW => by have hc := HT13.out W hW; go_simp⟩) hHeld ?_
  simp only [Act.put, sA, sZ, sS]
  refine tk 2 19 (.slice A len cap) rfl hHeld ?_
  simp only [Act.put, sA, sZ, sS]
  refine tk 3 20 (.pointer (some ⟨w1.heap.size, 14, none⟩)) rfl hHeld ?_
  simp only [Act.put, sA, sZ, sS]
  refine tkY 4 21 (.int .i64 (p : Int)) rfl (Or.inl ⟨by rfl, fun W hW => by have hc := HT14.out W hW; go_simp⟩) hHeld ?_
  simp only [Act.put, sA, sZ, sS]
  refine tkY 5 22 (.slice RA rl rc) rfl (Or.inl ⟨by rfl, fun W _ => by have hs := HCUT.out W; go_simp⟩) hHeld ?_
  simp only [Act.put, sA, sZ, sS]
  refine wpAnyH_ready (rs := [6, 7]) (by kernel_rfl) (by simp) (AllReadyH.cons (o := ⟨some 23, _, _, _, _, _⟩) rfl (fun K hK => ?_) (AllReadyH.cons (o := ⟨some 5, _, _, _, _, _⟩) rfl (fun K hK => ?_) AllReadyH.nil))
  · go_simp
    refine (RN.out _ hHeld).mono ?_
    rintro e w7 ⟨rfl, hb7⟩
    exact ⟨rfl, fine_kind hk0, HB2.out.trans ((hHeld.trans (hb7.mono hHeld.size)).mono HB2.out.size)⟩
  · go_simp
    rw [zeroNw]
    have hh7 := hHeld.alloc hHeld.size (.cells (nwL (ntNo 0)).toArray 108)
    have HH7 := Lib.hid hh7
    clear hh7
    generalize Y.alloc (.cells (nwL (ntNo 0)).toArray 108) = w7 at HH7 ⊢
    generalize Y.heap.size = G7
    refine hK.out _ _ (HH7.out) (fun hHeld => ?_)
    clear hK K 
    refine wpAnyH_ready (rs := [6]) (by kernel_rfl) (by simp) (AllReadyH.cons (o := ⟨some 23, _, _, _, _, _⟩) rfl (fun K hK => ?_) AllReadyH.nil)
    go_simp
    refine (RN.out _ hHeld).mono ?_
    rintro e w8 ⟨rfl, hb8⟩
    exact ⟨rfl, fine_kind hk0, HB2.out.trans ((hHeld.trans (hb8.mono hHeld.size)).mono HB2.out.size)⟩
set_option maxHeartbeats 40000000 in
theorem fine_3 (A : Option Addr) (len cap : Nat) (xs : List UInt8) (hlen : len ≤ 100000) (hcap : len ≤ cap) (hcm : cap ≤ maxLen) (h0 : (rdOf xs).2 = 0) {L : Lk} (hL : (rdOf xs).1 = L) {p : Nat} (hp : atK xs = p) {rl rc : Nat} {RA : Option Addr} (hRA : cutA A cap p = RA) (hrl : len - p = rl) (hrc : cap - p = rc) {n : Nt} (hne : n.e = 0) (hNF : n.Fits rl) (hk : readK xs = behind p (xs.drop p) n) (hM : ∀ W : World, Rd W W.heap.size RA rl (xs.drop p) → Calls Try.prog 60 #[.int .i64 L.ty, .slice RA rl rc] W fun e w' => e = .returned (nwC n) ∧ Below W.heap.size W w') (w : World) (hI : Rd w w.heap.size A len xs) :
    Calls Try.prog 41 #[.slice A len cap] w fun e w' => FineGave (readK xs) e ∧ Below w.heap.size w w' := by
  obtain ⟨Z, hZ⟩ : ∃ Z : World, w.alloc (.cells (pkL (kindK 0)).toArray 37) = Z := ⟨_, rfl⟩
  have hP0 : Blk Z 37 w.heap.size (pkL (kindK 0)) := by rw [← hZ]; exact Blk_10.new w _ _
  have hB0 : Below w.heap.size w Z := by rw [← hZ]; exact (Below.refl w.heap.size w).alloc (Nat.le_refl _) _
  rw [← zeroPk] at hZ
  have HZ := Lib.hid hZ
  have HP0 := Lib.hid hP0
  have HB0 := Lib.hid hB0
  have hR := read_any_7 A len cap xs (by omega) hcap hcm Z ((hI.below hB0).more hB0.size)
  unfold ReadGave_7 at hR
  have H6 := Lib.hid (show (rdOf xs).1.Six from (rdOf_six xs _ _ rfl).1)
  rw [hk]
  obtain ⟨a1, a2, a3, a4, _⟩ := atK_ok h0
  rw [hL, h0] at hR
  rw [hL] at H6 a1
  rw [hp] at a1 a2 a3 a4
  rw [hI.len] at a2
  have HRR := Lib.hid (hI.from (l := p) a2 cap hcap)
  have hcut := fun W => run_from8 A len cap p a2 W
  have hdl : (xs.drop p).length = len - p := by rw [List.length_drop, hI.len]
  have hrcl : rl ≤ rc := by omega
  have hrll : rl ≤ 100000 := by omega
  have hrcm : rc ≤ maxLen := by omega
  rw [hrl] at hdl
  rw [hRA, hrl, hrc] at hcut
  rw [hRA, hrl] at HRR
  obtain ⟨rest, hrest⟩ : ∃ r, xs.drop p = r := ⟨_, rfl⟩
  rw [hrest] at HRR hdl
  have HCUT := Lib.hid hcut
  have HTY := Lib.hid (fun tv => (lk_ty L H6.out tv).1)
  have HAT := Lib.hid (fun tv => show (lkL L tv)[14]? = some (.int .i64 (p : Int)) from a1 ▸ (lk_ty L H6.out tv).2)
  have HR := Lib.hid hR
  rw [hrest] at hM ⊢
  have HM := Lib.hid hM
  have NS := Lib.hid hNF
  have HNO := Lib.hid (show n.Ok from ⟨hNF.s, hNF.d⟩)
  have hh1 := hNF.h1
  have hh2 := hNF.h2
  obtain ⟨sl, hsl⟩ : ∃ k, n.total - n.head = k := ⟨_, rfl⟩
  have hseg : (xs.drop (p + n.head)).take sl = segN rest n := by unfold segN; rw [← hrest, List.drop_drop, hsl]
  have hsg0 := hI.cut (l := p + n.head) (n := sl) (by omega) cap hcap
  rw [hseg] at hsg0
  have HSG := Lib.hid hsg0
  have HC8 := Lib.hid (fun W => run_cut8 A len cap (p + n.head) sl ((p : Int) + (n.head : Int)) ((p : Int) + (n.total : Int)) (by omega) (by omega) (by omega) W)
  obtain ⟨q, hq⟩ : ∃ q, rdP (n.proto : Nat) (segN rest n) = q := ⟨_, rfl⟩
  obtain ⟨F3, hF3⟩ : ∃ F, faultP (n.proto : Nat) (segN rest n) = F := ⟨_, rfl⟩
  have R10 := Lib.hid (fun W (hW : Below w.heap.size w W) => read_any_10 (A := cutA A cap (p + n.head)) (len := sl) (cap := cap - (p + n.head)) (xs := segN rest n) (n.proto : Int) (by omega) (by omega) (by omega) W ((HSG.out.below hW).more hW.size))
  rw [hq, hF3] at R10
  unfold ReadGave_10 at R10
  obtain ⟨KK, hKK⟩ : ∃ K, behind p rest n = K := ⟨_, rfl⟩
  have K4 := Lib.hid (fun (h : n.frag = true) => hKK.symm.trans (behind_4 hne h))
  have K5 := Lib.hid (fun (h : n.frag = false) (h2 : n.proto ≠ 6 ∧ n.proto ≠ 17) => hKK.symm.trans (behind_5 hne h h2))
  have K6 := Lib.hid (fun (h : n.frag = false) (h2 : ¬ (n.proto ≠ 6 ∧ n.proto ≠ 17)) (h3 : F3 ≠ 0) => hKK.symm.trans (behind_6 hne h h2 (by rw [hF3]; exact h3)))
  have K0 := Lib.hid (fun (h : n.frag = false) (h2 : ¬ (n.proto ≠ 6 ∧ n.proto ≠ 17)) (h3 : F3 = 0) => hq ▸ hKK.symm.trans (behind_0 hne h h2 (by rw [hF3]; exact h3)))
  rw [hKK]
  clear hZ hP0 hB0 hR hL hI hk h0 hM hRA hrl hrc hrest hdl a1 a3 hp hcut hNF hseg hsg0 hq hF3 hKK hne hsl
  go_enter Try.func41, Try.ntmps41
  go_wp2_with fail
  rw [HZ.out]
  refine HR.out.mono ?_
  rintro e w1 ⟨tv, rfl, hown, hb1⟩
  obtain ⟨At, mt, ct, rfl, q1, q2, q3, q4, q5⟩ := hown.sl
  clear q1 q2 q3 q4 q5
  have HB1 := Lib.hid (HB0.out.trans (hb1.mono HB0.out.size))
  have HP1 := Lib.hid (HP0.out.below HP0.out.lt hb1)
  clear hb1 hown
  go_wp2_with (((with_reducible show wpList _ _ _ (⟨none, .store 46 (.tmp 3) (.tmp 12), _, _, _, _⟩ :: _) _ _); refine wpList_storeNewG (op := ⟨none, .store 46 (.tmp 3) (.tmp 12), _, _, _, _⟩) rfl 46 _ _ rfl (by rfl) (lkL L (.slice At mt ct)) (by rfl) (by rw [lkL_len H6.out]; rfl) (sizeLkL H6.out _) (lkL_one L _ rfl) ?_; intro w2 hl2 hb2 hz2; clear hz2; have HB2 := Lib.hid (HB1.out.trans (hb2.mono HB1.out.size)); have HP2 := Lib.hid (HP1.out.below HP1.out.lt hb2); have HK2 := Lib.hid hl2; clear hl2 hb2))
  refine (need_yes 1 _).mono ?_
  rintro e w6 ⟨rfl, rfl⟩
  go_wp2_with fail
  have HT13 := Lib.hid (fun W (hW : Below w2.heap.size w2 W) => Blk_10.cell (HK2.out.below HK2.out.lt hW) (HTY.out (.slice At mt ct)))
  have HT14 := Lib.hid (fun W (hW : Below w2.heap.size w2 W) => Blk_10.cell (HK2.out.below HK2.out.lt hW) (HAT.out (.slice At mt ct)))
  have RN := Lib.hid (fun W (hW : Below w2.heap.size w2 W) => HM.out W ((HRR.out.below (HB2.out.trans (hW.mono HB2.out.size))).more (Nat.le_trans HB2.out.size hW.size)))
  apply cut_world (H := fun W G => w2.heap.size ≤ G ∧ Blk W 108 G (nwL n) ∧ Below w2.heap.size w2 W)
  case h1 =>
    intro hc
    refine wp_region_held_drew (S := fun W => Below w2.heap.size w2 W) (by kernel_rfl) ((Below.refl _ _).drew) (fun hHeld => ?_)
    obtain ⟨Y, hY⟩ : ∃ Y, w2.drew = Y := ⟨_, rfl⟩
    rw [hY] at hHeld ⊢
    clear hY
    refine tk 0 17 (.pointer (some ⟨w1.heap.size, 13, none⟩)) rfl hHeld ?_
    simp only [Act.put, sA, sZ, sS]
    refine tkY 1 18 (.int .i64 L.ty) rfl (Or.inl ⟨by rfl, fun W hW => by have hc := HT13.out W hW; go_simp⟩) hHeld ?_
    simp only [Act.put, sA, sZ, sS]
    refine tk 2 19 (.slice A len cap) rfl hHeld ?_
    simp only [Act.put, sA, sZ, sS]
    refine tk 3 20 (.pointer (some ⟨w1.heap.size, 14, none⟩)) rfl hHeld ?_
    simp only [Act.put, sA, sZ, sS]
    refine tkY 4 21 (.int .i64 (p : Int)) rfl (Or.inl ⟨by rfl, fun W hW => by have hc := HT14.out W hW; go_simp⟩) hHeld ?_
    simp only [Act.put, sA, sZ, sS]
    refine tkY 5 22 (.slice RA rl rc) rfl (Or.inl ⟨by rfl, fun W _ => by have hs := HCUT.out W; go_simp⟩) hHeld ?_
    simp only [Act.put, sA, sZ, sS]
    refine wpAnyH_ready (rs := [6, 7]) (by kernel_rfl) (by simp) (AllReadyH.cons (o := ⟨some 23, _, _, _, _, _⟩) rfl (fun K hK => ?_) (AllReadyH.cons (o := ⟨some 5, _, _, _, _, _⟩) rfl (fun K hK => ?_) AllReadyH.nil))
    · go_simp
      refine (RN.out _ hHeld).mono ?_
      rintro e w7 ⟨rfl, hb7⟩
      refine hK.out _ _ (hHeld.trans (hb7.mono hHeld.size)) (fun hHeld => ?_)
      clear hK K hb7
      refine wpAnyH_ready (rs := [7]) (by kernel_rfl) (by simp) (AllReadyH.cons (o := ⟨some 5, _, _, _, _, _⟩) rfl (fun K hK => ?_) AllReadyH.nil)
      go_simp
      rw [zeroNw]
      have hg8 := Blk_10.new w7 108 (nwL (ntNo 0))
      have HG8 := Lib.hid hg8
      have HGE := Lib.hid hHeld.size
      have hh8 := hHeld.alloc hHeld.size (.cells (nwL (ntNo 0)).toArray 108)
      have HH8 := Lib.hid hh8
      clear hg8 hh8
      generalize w7.heap.size = G at HG8 HGE ⊢
      generalize w7.alloc (.cells (nwL (ntNo 0)).toArray 108) = w8 at HG8 HH8 ⊢
      refine hK.out _ _ (HH8.out) (fun hHeld => ?_)
      clear hK K 
      refine wpAnyH_ready (rs := [8]) (by kernel_rfl) (by simp) (AllReadyH.cons (o := ⟨none, _, _, _, _, _⟩) rfl (fun K hK => ?_) AllReadyH.nil)
      refine step_storeR_10 rfl 108 _ _ rfl G (by rfl) (nwL n) (by rfl) _ HG8.out (by rw [nwL_len HNO.out]; rfl) (sizeNwL HNO.out) (nwL_one _) ?_
      have hr9 := Blk_10.setRow_ HG8.out (nwL n)
      have hh9 := below_setRow hHeld (HGE.out) (nwL n).toArray
      have HR9 := Lib.hid hr9
      have HH9 := Lib.hid hh9
      clear hr9 hh9
      generalize World.setRow _ G (nwL n).toArray = wz at HR9 HH9 ⊢
      refine hK.out _ _ (HH9.out) (fun hHeld => ?_)
      clear hK K 
      refine wpAnyH_done (by kernel_rfl) ?_ _
      exact hc wz G ⟨HGE.out, HR9.out, HH9.out⟩
    · go_simp
      rw [zeroNw]
      have hg7 := Blk_10.new Y 108 (nwL (ntNo 0))
      have HG7 := Lib.hid hg7
      have HGE := Lib.hid hHeld.size
      have hh7 := hHeld.alloc hHeld.size (.cells (nwL (ntNo 0)).toArray 108)
      have HH7 := Lib.hid hh7
      clear hg7 hh7
      generalize Y.heap.size = G at HG7 HGE ⊢
      generalize Y.alloc (.cells (nwL (ntNo 0)).toArray 108) = w7 at HG7 HH7 ⊢
      refine hK.out _ _ (HH7.out) (fun hHeld => ?_)
      clear hK K 
      refine wpAnyH_ready (rs := [6]) (by kernel_rfl) (by simp) (AllReadyH.cons (o := ⟨some 23, _, _, _, _, _⟩) rfl (fun K hK => ?_) AllReadyH.nil)
      go_simp
      refine (RN.out _ hHeld).mono ?_
      rintro e w8 ⟨rfl, hb8⟩
      have HG8 := Lib.hid (HG7.out.below HG7.out.lt hb8)
      refine hK.out _ _ (hHeld.trans (hb8.mono hHeld.size)) (fun hHeld => ?_)
      clear hK K hb8
      refine wpAnyH_ready (rs := [8]) (by kernel_rfl) (by simp) (AllReadyH.cons (o := ⟨none, _, _, _, _, _⟩) rfl (fun K hK => ?_) AllReadyH.nil)
      refine step_storeR_10 rfl 108 _ _ rfl G (by rfl) (nwL n) (by rfl) _ HG8.out (by rw [nwL_len HNO.out]; rfl) (sizeNwL HNO.out) (nwL_one _) ?_
      have hr9 := Blk_10.setRow_ HG8.out (nwL n)
      have hh9 := below_setRow hHeld (HGE.out) (nwL n).toArray
      have HR9 := Lib.hid hr9
      have HH9 := Lib.hid hh9
      clear hr9 hh9
      generalize World.setRow _ G (nwL n).toArray = wz at HR9 HH9 ⊢
      refine hK.out _ _ (HH9.out) (fun hHeld => ?_)
      clear hK K 
      refine wpAnyH_done (by kernel_rfl) ?_ _
      exact hc wz G ⟨HGE.out, HR9.out, HH9.out⟩
  case h2 =>
    intro wz G hcc
    obtain ⟨hge, hq, hbz⟩ := hcc
    have HQ := Lib.hid hq
    have HPz := Lib.hid (HP2.out.below HP2.out.lt hbz)
    have HKz := Lib.hid (HK2.out.below HK2.out.lt hbz)
    have HBz := Lib.hid (HB2.out.trans (hbz.mono HB2.out.size))
    obtain ⟨c0, c1, c2, c3⟩ := nw_cells hq
    have HGE := Lib.hid hge
    clear hge hq hbz
    obtain ⟨fg, hfg⟩ : ∃ b, n.frag = b := ⟨_, rfl⟩
    rw [hfg] at c2
    cases fg with
    | true =>
      have e := K4.out hfg
      subst e
      clear hfg
      go_wp2_with fail
      refine (need_no 4 _).mono ?_
      rintro e w9 ⟨rfl, rfl⟩
      exact ⟨rfl, fine_kind (by decide), HBz.out⟩
    | false =>
      have HFG := Lib.hid hfg
      clear hfg
      go_wp2_with fail
      refine (need_yes 4 _).mono ?_
      rintro e w9 ⟨rfl, rfl⟩
      go_wp2_with fail
      refine (isport_any (n.proto : Int) _).mono ?_
      rintro e w9 ⟨rfl, rfl⟩
      by_cases hp5 : n.proto ≠ 6 ∧ n.proto ≠ 17
      · have e := K5.out HFG.out hp5
        subst e
        have hpt : isPt (n.proto : Int) = false := decide_eq_false (by omega)
        rw [hpt]
        clear hp5 hpt
        go_wp2_with fail
        refine (need_no 5 _).mono ?_
        rintro e w9 ⟨rfl, rfl⟩
        exact ⟨rfl, fine_kind (by decide), HBz.out⟩
      · have HP5 := Lib.hid hp5
        have hpt : isPt (n.proto : Int) = true := decide_eq_true (by omega)
        rw [hpt]
        clear hp5 hpt
        go_wp2_with fail
        refine (need_yes 5 _).mono ?_
        rintro e w9 ⟨rfl, rfl⟩
        go_wp2_with fail
        have hwh : IntKind.i64.wrap ((p : Int) + (n.head : Int)) = (p : Int) + (n.head : Int) := by rw [IntKind.wrap_i64]; omega
        have hwt : IntKind.i64.wrap ((p : Int) + (n.total : Int)) = (p : Int) + (n.total : Int) := by rw [IntKind.wrap_i64]; omega
        have HN0 := Lib.hid (fun W (hW : Below wz.heap.size wz W) => nw_cells (HQ.out.below HQ.out.lt hW))
        have HP14 := Lib.hid (fun W (hW : Below wz.heap.size wz W) => Blk_10.cell (HKz.out.below HKz.out.lt hW) (HAT.out (.slice At mt ct)))
        refine wp_region_held_drew (S := fun W => Below wz.heap.size wz W) (by kernel_rfl) ((Below.refl _ _).drew) (fun hHeld => ?_)
        obtain ⟨Y, hY⟩ : ∃ Y, wz.drew = Y := ⟨_, rfl⟩
        rw [hY] at hHeld ⊢
        clear hY
        refine tk 0 32 (.pointer (some ⟨w1.heap.size, 14, none⟩)) rfl hHeld ?_
        simp only [Act.put, sA, sZ, sS]
        refine tkY 1 33 (.int .i64 (p : Int)) rfl (Or.inl ⟨by rfl, fun W hW => by have hc := HP14.out W hW; go_simp⟩) hHeld ?_
        simp only [Act.put, sA, sZ, sS]
        refine tk 2 34 (.pointer (some ⟨G, 0, none⟩)) rfl hHeld ?_
        simp only [Act.put, sA, sZ, sS]
        refine tkY 3 35 (.int .i64 (n.head : Int)) rfl (Or.inl ⟨by rfl, fun W hW => by obtain ⟨d0, d1, d2, d3⟩ := HN0.out W hW; go_simp⟩) hHeld ?_
        simp only [Act.put, sA, sZ, sS]
        refine tk 4 36 (.int .i64 ((p : Int) + (n.head : Int))) rfl hHeld ?_
        simp only [Act.put, sA, sZ, sS]
        refine tk 5 37 (.pointer (some ⟨w1.heap.size, 14, none⟩)) rfl hHeld ?_
        simp only [Act.put, sA, sZ, sS]
        refine tkY 6 38 (.int .i64 (p : Int)) rfl (Or.inl ⟨by rfl, fun W hW => by have hc := HP14.out W hW; go_simp⟩) hHeld ?_
        simp only [Act.put, sA, sZ, sS]
        refine tk 7 39 (.pointer (some ⟨G, 1, none⟩)) rfl hHeld ?_
        simp only [Act.put, sA, sZ, sS]
        refine tkY 8 40 (.int .i64 (n.total : Int)) rfl (Or.inl ⟨by rfl, fun W hW => by obtain ⟨d0, d1, d2, d3⟩ := HN0.out W hW; go_simp⟩) hHeld ?_
        simp only [Act.put, sA, sZ, sS]
        refine tk 9 41 (.int .i64 ((p : Int) + (n.total : Int))) rfl hHeld ?_
        simp only [Act.put, sA, sZ, sS]
        refine tk 10 6 (.int .i64 ((p : Int) + (n.head : Int))) rfl hHeld ?_
        simp only [Act.put, sA, sZ, sS]
        refine tk 11 7 (.int .i64 ((p : Int) + (n.total : Int))) rfl hHeld ?_
        simp only [Act.put, sA, sZ, sS]
        refine wpAnyH_done (by kernel_rfl) ?_ _
        go_wp2_with fail
        have HBY := Lib.hid hHeld
        clear c0 c1 c2 c3 hHeld
        have HQY := Lib.hid (HQ.out.below HQ.out.lt HBY.out)
        have HPY := Lib.hid (HPz.out.below HPz.out.lt HBY.out)
        have HKY := Lib.hid (HKz.out.below HKz.out.lt HBY.out)
        have HBB := Lib.hid (HBz.out.trans (HBY.out.mono HBz.out.size))
        have HPR := Lib.hid (fun W (hW : Below Y.heap.size Y W) => (nw_cells (HQY.out.below HQY.out.lt hW)).2.2.2)
        have RP := Lib.hid (fun W (hW : Below Y.heap.size Y W) => R10.out W (HBB.out.trans (hW.mono HBB.out.size)))
        apply cut_world (H := fun W G2 => Y.heap.size ≤ G2 ∧ Blk W 72 G2 (poL q) ∧ Below Y.heap.size Y W)
        case h1 =>
          intro hc
          refine wp_region_held_drew (S := fun W => Below Y.heap.size Y W) (by kernel_rfl) ((Below.refl _ _).drew) (fun hHeld => ?_)
          obtain ⟨X, hX⟩ : ∃ X, Y.drew = X := ⟨_, rfl⟩
          rw [hX] at hHeld ⊢
          clear hX
          refine tk 0 43 (.pointer (some ⟨G, 3, none⟩)) rfl hHeld ?_
          simp only [Act.put, sA, sZ, sS]
          refine tkY 1 44 (.int .i64 (n.proto : Int)) rfl (Or.inl ⟨by rfl, fun W hW => by have hc := HPR.out W hW; go_simp⟩) hHeld ?_
          simp only [Act.put, sA, sZ, sS]
          refine tk 2 45 (.slice A len cap) rfl hHeld ?_
          simp only [Act.put, sA, sZ, sS]
          refine tk 3 46 (.int .i64 ((p : Int) + (n.head : Int))) rfl hHeld ?_
          simp only [Act.put, sA, sZ, sS]
          refine tk 4 47 (.int .i64 ((p : Int) + (n.total : Int))) rfl hHeld ?_
          simp only [Act.put, sA, sZ, sS]
          refine tkY 5 48 (.slice (cutA A cap (p + n.head)) sl (cap - (p + n.head))) rfl (Or.inl ⟨by rfl, fun W _ => by have hs := HC8.out W; go_simp⟩) hHeld ?_
          simp only [Act.put, sA, sZ, sS]
          refine wpAnyH_ready (rs := [6, 10]) (by kernel_rfl) (by simp) (AllReadyH.cons (o := ⟨some 49, _, _, _, _, _⟩) rfl (fun K hK => ?_) (AllReadyH.cons (o := ⟨some 8, _, _, _, _, _⟩) rfl (fun K hK => ?_) AllReadyH.nil))
          · go_simp
            refine (RP.out _ hHeld).mono ?_
            rintro e w7 ⟨rfl, hb7⟩
            refine hK.out _ _ (hHeld.trans (hb7.mono hHeld.size)) (fun hHeld => ?_)
            clear hK K hb7
            refine tk 7 42 (.tuple #[poC q, .int .i64 (F3 : Int)]) rfl hHeld ?_
            simp only [Act.put, sA, sZ, sS]
            refine tk 8 50 (poC q) rfl hHeld ?_
            simp only [Act.put, sA, sZ, sS]
            refine tk 9 51 (.int .i64 (F3 : Int)) rfl hHeld ?_
            simp only [Act.put, sA, sZ, sS]
            refine wpAnyH_ready (rs := [10]) (by kernel_rfl) (by simp) (AllReadyH.cons (o := ⟨some 8, _, _, _, _, _⟩) rfl (fun K hK => ?_) AllReadyH.nil)
            go_simp
            rw [zeroP_10]
            have hg8 := Blk_10.new w7 72 (poL Po.zero)
            have HG8 := Lib.hid hg8
            have HGE2 := Lib.hid hHeld.size
            have hh8 := hHeld.alloc hHeld.size (.cells (poL Po.zero).toArray 72)
            have HH8 := Lib.hid hh8
            clear hg8 hh8
            generalize w7.heap.size = G2 at HG8 HGE2 ⊢
            generalize w7.alloc (.cells (poL Po.zero).toArray 72) = w8 at HG8 HH8 ⊢
            refine hK.out _ _ (HH8.out) (fun hHeld => ?_)
            clear hK K 
            refine wpAnyH_ready (rs := [11]) (by kernel_rfl) (by simp) (AllReadyH.cons (o := ⟨none, _, _, _, _, _⟩) rfl (fun K hK => ?_) AllReadyH.nil)
            refine step_storeR_10 rfl 72 _ _ rfl G2 (by rfl) (poL q) (by rfl) _ HG8.out rfl (sizePoL _) (poL_one _) ?_
            have hr9 := Blk_10.setRow_ HG8.out (poL q)
            have hh9 := below_setRow hHeld (HGE2.out) (poL q).toArray
            have HR9 := Lib.hid hr9
            have HH9 := Lib.hid hh9
            clear hr9 hh9
            generalize World.setRow _ G2 (poL q).toArray = wy at HR9 HH9 ⊢
            refine hK.out _ _ (HH9.out) (fun hHeld => ?_)
            clear hK K 
            refine tk 12 4 (.int .i64 (F3 : Int)) rfl hHeld ?_
            simp only [Act.put, sA, sZ, sS]
            refine wpAnyH_done (by kernel_rfl) ?_ _
            exact hc wy G2 ⟨HGE2.out, HR9.out, HH9.out⟩
          · go_simp
            rw [zeroP_10]
            have hg7 := Blk_10.new X 72 (poL Po.zero)
            have HG7 := Lib.hid hg7
            have HGE2 := Lib.hid hHeld.size
            have hh7 := hHeld.alloc hHeld.size (.cells (poL Po.zero).toArray 72)
            have HH7 := Lib.hid hh7
            clear hg7 hh7
            generalize X.heap.size = G2 at HG7 HGE2 ⊢
            generalize X.alloc (.cells (poL Po.zero).toArray 72) = w7 at HG7 HH7 ⊢
            refine hK.out _ _ (HH7.out) (fun hHeld => ?_)
            clear hK K 
            refine wpAnyH_ready (rs := [6]) (by kernel_rfl) (by simp) (AllReadyH.cons (o := ⟨some 49, _, _, _, _, _⟩) rfl (fun K hK => ?_) AllReadyH.nil)
            go_simp
            refine (RP.out _ hHeld).mono ?_
            rintro e w8 ⟨rfl, hb8⟩
            have HG8 := Lib.hid (HG7.out.below HG7.out.lt hb8)
            refine hK.out _ _ (hHeld.trans (hb8.mono hHeld.size)) (fun hHeld => ?_)
            clear hK K hb8
            refine tk 7 42 (.tuple #[poC q, .int .i64 (F3 : Int)]) rfl hHeld ?_
            simp only [Act.put, sA, sZ, sS]
            refine tk 8 50 (poC q) rfl hHeld ?_
            simp only [Act.put, sA, sZ, sS]
            refine tk 9 51 (.int .i64 (F3 : Int)) rfl hHeld ?_
            simp only [Act.put, sA, sZ, sS]
            refine wpAnyH_ready (rs := [11]) (by kernel_rfl) (by simp) (AllReadyH.cons (o := ⟨none, _, _, _, _, _⟩) rfl (fun K hK => ?_) AllReadyH.nil)
            refine step_storeR_10 rfl 72 _ _ rfl G2 (by rfl) (poL q) (by rfl) _ HG8.out rfl (sizePoL _) (poL_one _) ?_
            have hr9 := Blk_10.setRow_ HG8.out (poL q)
            have hh9 := below_setRow hHeld (HGE2.out) (poL q).toArray
            have HR9 := Lib.hid hr9
            have HH9 := Lib.hid hh9
            clear hr9 hh9
            generalize World.setRow _ G2 (poL q).toArray = wy at HR9 HH9 ⊢
            refine hK.out _ _ (HH9.out) (fun hHeld => ?_)
            clear hK K 
            refine tk 12 4 (.int .i64 (F3 : Int)) rfl hHeld ?_
            simp only [Act.put, sA, sZ, sS]
            refine wpAnyH_done (by kernel_rfl) ?_ _
            exact hc wy G2 ⟨HGE2.out, HR9.out, HH9.out⟩
        case h2 =>
          intro wy G2 hcc
          obtain ⟨hge2, hq2, hby⟩ := hcc
          have HQ2 := Lib.hid hq2
          have HQy := Lib.hid (HQY.out.below HQY.out.lt hby)
          have HPy := Lib.hid (HPY.out.below HPY.out.lt hby)
          have HKy := Lib.hid (HKY.out.below HKY.out.lt hby)
          have HBy := Lib.hid (HBB.out.trans (hby.mono HBB.out.size))
          obtain ⟨c0, c1, c2, c3⟩ := nw_cells HQy.out
          have o0 := Blk_10.cell HQ2.out (i := 0) (v := .int .i64 (q.s : Int)) rfl
          have o1 := Blk_10.cell HQ2.out (i := 1) (v := .int .i64 (q.d : Int)) rfl
          have o2 := Blk_10.cell HQ2.out (i := 2) (v := .int .i64 (q.f : Int)) rfl
          have c14 := Blk_10.cell HKy.out (HAT.out (.slice At mt ct))
          clear hge2 hq2 hby
          by_cases hF : F3 = 0
          · have e := K0.out HFG.out HP5.out hF
            simp only [Int.natCast_add] at e
            subst e
            subst hF
            go_wp2_with fail
            refine (need_yes 6 _).mono ?_
            rintro e w9 ⟨rfl, rfl⟩
            go_wp2_with (first
              | ((with_reducible show wpList _ _ _ (⟨some 56, _, _, _, _, _⟩ :: _) _ _); refine wpList_loadAd (op := ⟨some 56, _, _, _, _, _⟩) _ rfl (by rfl) G 4 (by rfl) n.s NS.out.s (nw_src HQy.out) ?_)
              | ((with_reducible show wpList _ _ _ (⟨some 58, _, _, _, _, _⟩ :: _) _ _); refine wpList_loadAd (op := ⟨some 58, _, _, _, _, _⟩) _ rfl (by rfl) G 21 (by rfl) n.d NS.out.d (nw_dst HQy.out HNO.out) ?_)
              | ((with_reducible show wpList _ _ _ (⟨some 65, _, _, _, _, _⟩ :: _) _ _); refine wpList_buildw (op := ⟨some 65, _, _, _, _, _⟩) 35 _ rfl (by rfl) _ (by kernel_rfl) (tuL ⟨n.s, n.d, (n.proto : Int), (q.s : Int), (q.d : Int)⟩).toArray (built_tu _ _ _ _ _ NS.out.s NS.out.d) ?_)
              | ((with_reducible show wpList _ _ _ (⟨some 72, _, _, _, _, _⟩ :: _) _ _); refine wpList_buildw (op := ⟨some 72, _, _, _, _, _⟩) 37 _ rfl (by rfl) _ (by kernel_rfl) (pkL ⟨0, ⟨n.s, n.d, (n.proto : Int), (q.s : Int), (q.d : Int)⟩, (q.f : Int), (p : Int), (p : Int) + (n.head : Int), (p : Int) + (n.total : Int)⟩).toArray (built_pk0 _ _ _ _ _ ⟨NS.out.s, NS.out.d⟩) ?_)
              | ((with_reducible show wpList _ _ _ (⟨none, .store 37 (.tmp 2) _, _, _, _, _⟩ :: _) _ _); refine wpList_storeR_10 (op := ⟨none, .store 37 (.tmp 2) _, _, _, _, _⟩) rfl 37 _ _ rfl w.heap.size (by rfl) (pkL ⟨0, ⟨n.s, n.d, (n.proto : Int), (q.s : Int), (q.d : Int)⟩, (q.f : Int), (p : Int), (p : Int) + (n.head : Int), (p : Int) + (n.total : Int)⟩) (by rfl) _ HPy.out (by rw [pkL_len (p := ⟨0, ⟨n.s, n.d, (n.proto : Int), (q.s : Int), (q.d : Int)⟩, (q.f : Int), (p : Int), (p : Int) + (n.head : Int), (p : Int) + (n.total : Int)⟩) ⟨NS.out.s, NS.out.d⟩, pkL_len (p := kindK 0) Tu.ok_zero]) (sizePkL (p := ⟨0, ⟨n.s, n.d, (n.proto : Int), (q.s : Int), (q.d : Int)⟩, (q.f : Int), (p : Int), (p : Int) + (n.head : Int), (p : Int) + (n.total : Int)⟩) ⟨NS.out.s, NS.out.d⟩) (pkL_one _) ?_))
            refine bodyPost_ret (v := pkC ⟨0, ⟨n.s, n.d, (n.proto : Int), (q.s : Int), (q.d : Int)⟩, (q.f : Int), (p : Int), (p : Int) + (n.head : Int), (p : Int) + (n.total : Int)⟩) (results_pk rfl _ _ w.heap.size (by rfl) _ ⟨NS.out.s, NS.out.d⟩ (Blk_10.setRow_ HPy.out _)) rfl ?_
            exact ⟨fine_ok rfl, below_setRow HBy.out (Nat.le_refl _) _⟩
          · have e := K6.out HFG.out HP5.out hF
            subst e
            have bE : ((F3 : Int) == 0) = false := by simp; omega
            have bE2 : (F3 == 0) = false := by simp [hF]
            go_wp2_with fail
            refine (need_no 6 _).mono ?_
            rintro e w9 ⟨rfl, rfl⟩
            exact ⟨rfl, fine_kind (by decide), HBy.out⟩
/-- packet.fine. -/
theorem fine_any (A : Option Addr) (len cap : Nat) (xs : List UInt8) (hlen : len ≤ 100000) (hcap : len ≤ cap) (hcm : cap ≤ maxLen) (w : World) (hI : Rd w w.heap.size A len xs) :
    Calls Try.prog 41 #[.slice A len cap] w fun e w' => FineGave (readK xs) e ∧ Below w.heap.size w w' := by
  by_cases h0 : (rdOf xs).2 = 0
  · obtain ⟨a1, a2, a3, a4, _⟩ := atK_ok h0
    rw [hI.len] at a2
    have hs := net_split (xs := xs) h0 rfl rfl rfl (RA := cutA A cap (atK xs)) (rl := len - atK xs) (rc := cap - atK xs) (by omega) (by omega) (by omega) (by rw [List.length_drop, hI.len])
    rcases hs with ⟨k, hk0, hk, hM⟩ | ⟨n, hne, hNF, hk, hM⟩
    · exact fine_2 A len cap xs hlen hcap hcm h0 rfl rfl hk0 hk rfl rfl rfl hM w hI
    · exact fine_3 A len cap xs hlen hcap hcm h0 rfl rfl rfl rfl rfl hne hNF hk hM w hI
  · exact fine_1 A len cap xs hlen hcap hcm h0 w hI
end Go.Proofs.Ytkmcopenflakkaa
