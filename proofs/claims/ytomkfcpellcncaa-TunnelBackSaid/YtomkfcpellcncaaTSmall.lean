/-
  tunnel.kindOf, linkHead, header, isOneFamily, carried.
-/
import Derived.Test.YtomkfcpellcncaaTPack
import Derived.Test.YtomkfcpellcncaaKRMake
namespace Go.Proofs.Ytomkfcpellcncaa
set_option maxRecDepth 100000
open Go.RowKit Go.Lib

set_option maxHeartbeats 1000000 in
theorem tkind_any (a : Ad) (w : World) : Calls Try.prog 24 #[adC a] w fun e w' => e = .returned (.int .i64 (tyA a)) ∧ Below w.heap.size w w' := by
  obtain ⟨Y, hY⟩ : ∃ Y, w.alloc (.cells (adL a).toArray 25) = Y := ⟨_, rfl⟩
  have hq : Blk Y 25 w.heap.size (adL a) := by rw [← hY]; exact Blk_10.new w _ _
  have HB := Lib.hid (show Below w.heap.size w Y by rw [← hY]; exact (Below.refl w.heap.size w).alloc (Nat.le_refl _) _)
  have c0 : Y.cell? ⟨w.heap.size, 0, none⟩ = some (.bool a.six) := Blk_10.cell hq rfl
  obtain ⟨t, ht⟩ : ∃ t, tyA a = t := ⟨_, rfl⟩
  have HT := Lib.hid ht
  have E1 := Lib.hid (show adC a = .agg (adL a).toArray from rfl)
  rw [E1.out, ht]
  obtain ⟨C, hC⟩ : ∃ C, (adL a).toArray = C := ⟨_, rfl⟩
  rw [hC] at hY ⊢
  rw [← hY] at c0
  have HY := Lib.hid hY
  clear hY hq ht E1 hC
  cases hs : a.six with
  | true =>
    have HE := Lib.hid (show t = 34525 by rw [← HT.out]; exact if_pos hs)
    rw [hs] at c0
    clear hs
    go_enter Try.func24, Try.ntmps24
    go_wp2_with fail
    rw [HY.out]
    go_ret
    exact ⟨by rw [HE.out]; rfl, HB.out⟩
  | false =>
    have HE := Lib.hid (show t = 2048 by rw [← HT.out]; exact if_neg (by rw [hs]; decide))
    rw [hs] at c0
    clear hs
    go_enter Try.func24, Try.ntmps24
    go_wp2_with fail
    rw [HY.out]
    go_ret
    exact ⟨by rw [HE.out]; rfl, HB.out⟩
set_option maxHeartbeats 2000000 in
/-- tunnel.linkHead: a link's header with another Type. -/
theorem tlink_any {L : Lk} (h6 : L.Six) {A : Option Addr} {n cap : Nat} {ty : Int} (hr : rightB_7 { L with ty := ty } = true) (w : World) (hT : TagsAt w w.heap.size A n L.ts) :
    Calls Try.prog 23 #[lkC L (.slice A n cap), .int .i64 ty] w fun e w' => ∃ v, e = .returned v ∧ Own8 w' w.heap.size v (lkB { L with ty := ty }) ∧ Below w.heap.size w w' := by
  obtain ⟨Y, hY⟩ : ∃ Y, w.alloc (.cells (lkL L (.slice A n cap)).toArray 41) = Y := ⟨_, rfl⟩
  have HQ := Lib.hid (show Blk Y 41 w.heap.size (lkL L (.slice A n cap)) by rw [← hY]; exact Blk_10.new w _ _)
  have HB := Lib.hid (show Below w.heap.size w Y by rw [← hY]; exact (Below.refl w.heap.size w).alloc (Nat.le_refl _) _)
  have H6 := Lib.hid h6
  have HTY := Lib.hid (lk_ty L h6 (.slice A n cap)).1
  have HST := Lib.hid (lk_set L h6 (.slice A n cap) ty)
  have HPU := Lib.hid (fun W (hB : Below w.heap.size w W) => put_yes_7 { L with ty := ty } (six_ty h6 ty) (A := A) (n := n) cap ((hT.below hB).more hB.size) hr)
  unfold lkC at HPU ⊢
  obtain ⟨C, hC⟩ : ∃ C, (lkL L (.slice A n cap)).toArray = C := ⟨_, rfl⟩
  rw [hC] at hY ⊢
  have HY := Lib.hid hY
  clear hY h6 hC hT hr
  go_enter Try.func23, Try.ntmps23
  go_wp2_with (first
    | ((with_reducible show wpList _ _ _ (⟨none, .store 3 (.tmp 8) _, _, _, _, _⟩ :: _) _ _); rw [HY.out]; refine wpList_storeI_10 rfl (.tmp 8) _ rfl w.heap.size 13 (by rfl) ty (by rfl) 41 _ HQ.out L.ty HTY.out ?_; intro w2 hq2 _ hb2; rw [HST.out] at hq2; have HQ2 := Lib.hid hq2; have HB2 := Lib.hid (HB.out.trans hb2); clear hq2 hb2)
    | ((with_reducible show wpList _ _ _ (⟨some 10, _, _, _, _, _⟩ :: _) _ _); refine wpList_loadM (op := ⟨some 10, _, _, _, _, _⟩) 41 _ rfl (by rfl) w.heap.size 0 (by rfl) (lkL { L with ty := ty } (.slice A n cap)) (Blk_10.range HQ2.out) _ Try.underlying41 rfl (sizeLkL (six_ty H6.out ty) _) ?_))
  refine (HPU.out _ HB2.out).mono ?_
  rintro e w3 ⟨v, rfl, ho, hb3⟩
  obtain ⟨l, hl⟩ : ∃ l, (lkB { L with ty := ty }).length = l := ⟨_, rfl⟩
  obtain ⟨A3, c3, rfl, _, _, _⟩ := ho.formN hl
  have HO := Lib.hid ho
  have HB3 := Lib.hid (HB2.out.trans (hb3.mono HB2.out.size))
  clear ho hb3 hl
  go_wp2_with fail
  go_ret
  exact ⟨_, rfl, HO.out.base_le HB2.out.size, HB3.out⟩

set_option maxHeartbeats 4000000 in
theorem thead_4 {s d : Ad} (hs : s.b.length = 16) (hd : d.b.length = 16) (hsx : s.six = false) {p n : Nat} (hn : n ≤ 1000000) (w : World) :
    Calls Try.prog 21 #[adC s, adC d, .int .i64 (p : Int), .int .i64 (n : Int)] w fun e w' => (rightB (h4T s d p n) = true → ∃ v, e = .returned (.tuple #[v, .int .i64 0]) ∧ Own8 w' w.heap.size v (putF (h4T s d p n))) ∧ (rightB (h4T s d p n) = false → e = .returned (.tuple #[.slice none 0 0, .int .i64 1])) ∧ Below w.heap.size w w' := by
  obtain ⟨Y, hY, hq, hr, hbel⟩ := box_ads w s d
  have d0 : Y.cell? ⟨w.heap.size, 0, none⟩ = some (.bool false) := hsx ▸ Blk_10.cell hq rfl
  have HQ := Lib.hid hq
  have HR := Lib.hid hr
  have HB := Lib.hid hbel
  have HS := Lib.hid hs
  have HD := Lib.hid hd
  have HL := Lib.hid (show (putF (h4T s d p n)).length = 20 from putF_len (f := h4T s d p n) ⟨hs, hd⟩)
  have HBU := Lib.hid (show Try.prog.built 68 [(0, .int .i64 20), (1, .int .i64 ((20 + n : Nat) : Int)), (5, .bool true), (6, .int .i64 64), (7, .int .i64 (p : Int)), (8, adC s), (9, adC d)] = some (frL_8 (h4T s d p n)).toArray from built_4r ((20 + n : Nat) : Int) (p : Int) s d hs hd)
  have HPY := Lib.hid (fun h W => put_yes_8 (f := h4T s d p n) ⟨hs, hd⟩ h W)
  have HPN := Lib.hid (fun h W => put_no_8 (f := h4T s d p n) ⟨hs, hd⟩ h W)
  have hwr : IntKind.i64.wrap (20 + (n : Int)) = (((20 + n : Nat)) : Int) := by rw [IntKind.wrap_i64]; omega
  unfold adC frC_8 at *
  obtain ⟨C0, hC0⟩ : ∃ C, (adL s).toArray = C := ⟨_, rfl⟩
  obtain ⟨C1, hC1⟩ : ∃ C, (adL d).toArray = C := ⟨_, rfl⟩
  rw [hC0, hC1] at hY HBU ⊢
  have HC0 := Lib.hid hC0
  have HC1 := Lib.hid hC1
  rw [← hY] at d0
  have HY := Lib.hid hY
  obtain ⟨f, hf⟩ : ∃ f, h4T s d p n = f := ⟨_, rfl⟩
  rw [hf] at HBU HPY HPN HL ⊢
  clear hY hq hr hbel hs hd hsx hn hC0 hC1 hf
  go_enter Try.func21, Try.ntmps21
  go_wp2_with (first
    | ((with_reducible show wpList _ _ _ (⟨some 24, _, _, _, _, _⟩ :: _) _ _); refine wpList_loadM (op := ⟨some 24, _, _, _, _, _⟩) 25 _ rfl (by rfl) w.heap.size 0 (by rfl) (adL s) (by rw [HY.out]; exact Blk_10.range HQ.out) _ Try.underlying25 rfl (sizeAdL HS.out) ?_; rw [HC0.out])
    | ((with_reducible show wpList _ _ _ (⟨some 25, _, _, _, _, _⟩ :: _) _ _); refine wpList_loadM (op := ⟨some 25, _, _, _, _, _⟩) 25 _ rfl (by rfl) (w.heap.size + 1) 0 (by rfl) (adL d) (by rw [HY.out]; exact Blk_10.range HR.out) _ Try.underlying25 rfl (sizeAdL HD.out) ?_; rw [HC1.out])
    | ((with_reducible show wpList _ _ _ (⟨some 26, _, _, _, _, _⟩ :: _) _ _); refine wpList_buildw (op := ⟨some 26, _, _, _, _, _⟩) 68 _ rfl (by rfl) _ (by kernel_rfl) (frL_8 f).toArray HBU.out ?_))
  rw [HY.out]
  cases hr : rightB f with
  | true =>
    refine (HPY.out hr _).mono ?_
    rintro e w3 ⟨v, rfl, ho, hb3⟩
    obtain ⟨A3, c3, rfl, _, _, _⟩ := ho.formN HL.out
    have HO := Lib.hid ho
    have HB3 := Lib.hid (HB.out.trans (hb3.mono HB.out.size))
    have HRR := Lib.hid hr
    clear ho hb3 hr
    go_wp2_with fail
    go_ret2
    exact ⟨fun _ => ⟨_, rfl, HO.out.base_le HB.out.size⟩, fun h => absurd (HRR.out.symm.trans h) (by decide), HB3.out⟩
  | false =>
    refine (HPN.out hr _).mono ?_
    rintro e w3 ⟨rfl, hb3⟩
    have HB3 := Lib.hid (HB.out.trans (hb3.mono HB.out.size))
    have HRR := Lib.hid hr
    clear hb3 hr
    go_wp2_with fail
    go_ret2
    exact ⟨fun h => absurd (HRR.out.symm.trans h) (by decide), fun _ => rfl, HB3.out⟩

set_option maxHeartbeats 4000000 in
theorem thead_6 {s d : Ad} (hs : s.b.length = 16) (hd : d.b.length = 16) (hsx : s.six = true) {p n : Nat} (hn : n ≤ 1000000) (w : World) :
    Calls Try.prog 21 #[adC s, adC d, .int .i64 (p : Int), .int .i64 (n : Int)] w fun e w' => (rightB_9 (h6T s d p n) = true → ∃ v, e = .returned (.tuple #[v, .int .i64 0]) ∧ Own8 w' w.heap.size v (putF_9 (h6T s d p n))) ∧ (rightB_9 (h6T s d p n) = false → e = .returned (.tuple #[.slice none 0 0, .int .i64 1])) ∧ Below w.heap.size w w' := by
  obtain ⟨Y, hY, hq, hr, hbel⟩ := box_ads w s d
  have d0 : Y.cell? ⟨w.heap.size, 0, none⟩ = some (.bool true) := hsx ▸ Blk_10.cell hq rfl
  have HQ := Lib.hid hq
  have HR := Lib.hid hr
  have HB := Lib.hid hbel
  have HS := Lib.hid hs
  have HD := Lib.hid hd
  have HL := Lib.hid (show (putF_9 (h6T s d p n)).length = 40 from putF_len_9 (f := h6T s d p n) ⟨hs, hd⟩)
  have HBU := Lib.hid (show Try.prog.built 65 [(0, .int .i64 40), (1, .int .i64 ((40 + n : Nat) : Int)), (2, .int .i64 64), (5, .int .i64 (p : Int)), (6, adC s), (7, adC d)] = some (frL_9 (h6T s d p n)).toArray from built_at_9 40 ((40 + n : Nat) : Int) 64 (p : Int) s d hs hd)
  have HPY := Lib.hid (fun h W => put_yes_9 (f := h6T s d p n) ⟨hs, hd⟩ h W)
  have HPN := Lib.hid (fun h W => put_no_9 (f := h6T s d p n) ⟨hs, hd⟩ h W)
  have hwr : IntKind.i64.wrap (40 + (n : Int)) = (((40 + n : Nat)) : Int) := by rw [IntKind.wrap_i64]; omega
  unfold adC frC_9 at *
  obtain ⟨C0, hC0⟩ : ∃ C, (adL s).toArray = C := ⟨_, rfl⟩
  obtain ⟨C1, hC1⟩ : ∃ C, (adL d).toArray = C := ⟨_, rfl⟩
  rw [hC0, hC1] at hY HBU ⊢
  have HC0 := Lib.hid hC0
  have HC1 := Lib.hid hC1
  rw [← hY] at d0
  have HY := Lib.hid hY
  obtain ⟨f, hf⟩ : ∃ f, h6T s d p n = f := ⟨_, rfl⟩
  rw [hf] at HBU HPY HPN HL ⊢
  clear hY hq hr hbel hs hd hsx hn hC0 hC1 hf
  go_enter Try.func21, Try.ntmps21
  go_wp2_with (first
    | ((with_reducible show wpList _ _ _ (⟨some 15, _, _, _, _, _⟩ :: _) _ _); refine wpList_loadM (op := ⟨some 15, _, _, _, _, _⟩) 25 _ rfl (by rfl) w.heap.size 0 (by rfl) (adL s) (by rw [HY.out]; exact Blk_10.range HQ.out) _ Try.underlying25 rfl (sizeAdL HS.out) ?_; rw [HC0.out])
    | ((with_reducible show wpList _ _ _ (⟨some 16, _, _, _, _, _⟩ :: _) _ _); refine wpList_loadM (op := ⟨some 16, _, _, _, _, _⟩) 25 _ rfl (by rfl) (w.heap.size + 1) 0 (by rfl) (adL d) (by rw [HY.out]; exact Blk_10.range HR.out) _ Try.underlying25 rfl (sizeAdL HD.out) ?_; rw [HC1.out])
    | ((with_reducible show wpList _ _ _ (⟨some 17, _, _, _, _, _⟩ :: _) _ _); refine wpList_buildw (op := ⟨some 17, _, _, _, _, _⟩) 65 _ rfl (by rfl) _ (by kernel_rfl) (frL_9 f).toArray HBU.out ?_))
  rw [HY.out]
  cases hr : rightB_9 f with
  | true =>
    refine (HPY.out hr _).mono ?_
    rintro e w3 ⟨v, rfl, ho, hb3⟩
    obtain ⟨A3, c3, rfl, _, _, _⟩ := ho.formN HL.out
    have HO := Lib.hid ho
    have HB3 := Lib.hid (HB.out.trans (hb3.mono HB.out.size))
    have HRR := Lib.hid hr
    clear ho hb3 hr
    go_wp2_with fail
    go_ret2
    exact ⟨fun _ => ⟨_, rfl, HO.out.base_le HB.out.size⟩, fun h => absurd (HRR.out.symm.trans h) (by decide), HB3.out⟩
  | false =>
    refine (HPN.out hr _).mono ?_
    rintro e w3 ⟨rfl, hb3⟩
    have HB3 := Lib.hid (HB.out.trans (hb3.mono HB.out.size))
    have HRR := Lib.hid hr
    clear hb3 hr
    go_wp2_with fail
    go_ret2
    exact ⟨fun h => absurd (HRR.out.symm.trans h) (by decide), fun _ => rfl, HB3.out⟩

/-- What tunnel.header answers. -/
def HdGave (w : World) (s d : Ad) (p n : Nat) (e : Ending) (w' : World) : Prop :=
  (okT s d p n = true → ∃ v, e = .returned (.tuple #[v, .int .i64 0]) ∧ Own8 w' w.heap.size v (headT s d p n)) ∧
  (okT s d p n = false → e = .returned (.tuple #[.slice none 0 0, .int .i64 1])) ∧ Below w.heap.size w w'
theorem thead_any {s d : Ad} (hs : s.b.length = 16) (hd : d.b.length = 16) {p n : Nat} (hn : n ≤ 1000000) (w : World) :
    Calls Try.prog 21 #[adC s, adC d, .int .i64 (p : Int), .int .i64 (n : Int)] w (HdGave w s d p n) := by
  unfold HdGave okT headT
  cases h : s.six with
  | true => rw [if_pos rfl, if_pos rfl]; exact thead_6 hs hd h hn w
  | false => rw [if_neg (by decide), if_neg (by decide)]; exact thead_4 hs hd h hn w
set_option maxHeartbeats 2000000 in
theorem tfam_any {s d : Ad} (hs : s.b.length = 16) (hd : d.b.length = 16) (w : World) : Calls Try.prog 20 #[adC s, adC d] w fun e w' => e = .returned (.bool (famB s d)) ∧ Below w.heap.size w w' := by
  obtain ⟨Y, hY, hq, hr, hbel⟩ := box_ads w s d
  have HQ := Lib.hid hq
  have HR := Lib.hid hr
  have HB := Lib.hid hbel
  have HS := Lib.hid hs
  have HD := Lib.hid hd
  have hH := thead_any hs hd (p := 4) (n := 0) (by decide) Y
  unfold HdGave at hH
  rw [okT_eq s d (.inl rfl) 0, show decide (0 ≤ mostT s) = true from decide_eq_true (Nat.zero_le _), Bool.and_true] at hH
  have HH := Lib.hid hH
  have HL := Lib.hid (headT_len hs hd 4 0)
  unfold adC at *
  obtain ⟨C0, hC0⟩ : ∃ C, (adL s).toArray = C := ⟨_, rfl⟩
  obtain ⟨C1, hC1⟩ : ∃ C, (adL d).toArray = C := ⟨_, rfl⟩
  rw [hC0, hC1] at hY HH ⊢
  have HC0 := Lib.hid hC0
  have HC1 := Lib.hid hC1
  have HY := Lib.hid hY
  obtain ⟨b, hb⟩ : ∃ b, famB s d = b := ⟨_, rfl⟩
  rw [hb] at HH ⊢
  clear hY hq hr hbel hs hd hC0 hC1 hb hH
  go_enter Try.func20, Try.ntmps20
  go_wp2_with (first
    | ((with_reducible show wpList _ _ _ (⟨some 8, _, _, _, _, _⟩ :: _) _ _); refine wpList_loadM (op := ⟨some 8, _, _, _, _, _⟩) 25 _ rfl (by rfl) w.heap.size 0 (by rfl) (adL s) (by rw [HY.out]; exact Blk_10.range HQ.out) _ Try.underlying25 rfl (sizeAdL HS.out) ?_; rw [HC0.out])
    | ((with_reducible show wpList _ _ _ (⟨some 9, _, _, _, _, _⟩ :: _) _ _); refine wpList_loadM (op := ⟨some 9, _, _, _, _, _⟩) 25 _ rfl (by rfl) (w.heap.size + 1) 0 (by rfl) (adL d) (by rw [HY.out]; exact Blk_10.range HR.out) _ Try.underlying25 rfl (sizeAdL HD.out) ?_; rw [HC1.out]))
  rw [HY.out]
  refine HH.out.mono ?_
  rintro e w3 ⟨hy, hn, hb3⟩
  have HB3 := Lib.hid (HB.out.trans (hb3.mono HB.out.size))
  clear hb3
  cases b with
  | true =>
    obtain ⟨v, rfl, ho⟩ := hy rfl
    obtain ⟨A3, c3, rfl, _, _, _⟩ := ho.formN HL.out
    clear hy hn ho
    go_wp2_with fail
    go_ret
    exact ⟨rfl, HB3.out⟩
  | false =>
    obtain rfl := hn rfl
    clear hy hn
    go_wp2_with fail
    go_ret
    exact ⟨rfl, HB3.out⟩
end Go.Proofs.Ytomkfcpellcncaa
