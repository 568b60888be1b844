/-
  The contract of four.Put.
-/
import Derived.Test.YtkdliadigalgaaaFMayBe
import Derived.Test.YtkdliadigalgaaaFSum
namespace Go.Proofs.Ytkdliadigalgaaa
open Go.RowKit Go.Lib

def z4 : List UInt8 := [0, 0, 0, 0]
theorem splice_s (O T I W L P c : Nat) (s d e : List UInt8) (hs : s.length = 4) (he : e.length = 4) : splice ((hdr O T I W L P c e d).map v8) 12 (s.map v8) = (hdr O T I W L P c s d).map v8 := by
  match s, hs, e, he with
  | [_, _, _, _], _, [_, _, _, _], _ => rfl
theorem splice_d (O T I W L P c : Nat) (s d e : List UInt8) (hs : s.length = 4) (hd : d.length = 4) (he : e.length = 4) : splice ((hdr O T I W L P c s e).map v8) 16 (d.map v8) = (hdr O T I W L P c s d).map v8 := by
  match s, hs, d, hd, e, he with
  | [_, _, _, _], _, [_, _, _, _], _, [_, _, _, _], _ => rfl
/-- A header that may be laid, and its bytes, by their numbers. -/
theorem put_hdr {f : Fr} (h : f.Ok) (hr : rightB f = true) : ∃ (T O I L P : Nat) (s d : List UInt8), f = ⟨20, (T : Int), (O : Int), (I : Int), false, f.keep, (L : Int), (P : Int), ⟨false, s ++ z12⟩, ⟨false, d ++ z12⟩⟩ ∧ s.length = 4 ∧ d.length = 4 ∧ T < 65536 ∧ O < 256 ∧ I < 65536 ∧ L < 256 ∧ P < 256 ∧
    ∀ W, putW f W = hdr O T I W L P (ckOf (hdr O T I W L P 0 s d)) s d := by
  obtain ⟨T, O, I, L, P, hf, t0, t1, o1, i1, l1, p1⟩ := (right_good hr).nats h
  have s4 := take4 h.s
  have d4 := take4 h.d
  generalize f.s.b.take 4 = s at *
  generalize f.d.b.take 4 = d at *
  generalize f.keep = k at *
  subst hf
  have ts : (s ++ z12).take 4 = s := by rw [List.take_append_of_le_length (by omega), List.take_of_length_le (by omega)]
  have td : (d ++ z12).take 4 = d := by rw [List.take_append_of_le_length (by omega), List.take_of_length_le (by omega)]
  refine ⟨T, O, I, L, P, s, d, rfl, s4, d4, t1, o1, i1, l1, p1, fun W => ?_⟩
  have e : ∀ c, hdrF ⟨20, (T : Int), (O : Int), (I : Int), false, k, (L : Int), (P : Int), ⟨false, s ++ z12⟩, ⟨false, d ++ z12⟩⟩ W c = hdr O T I W L P c s d := fun c => by
    unfold hdrF
    simp only [Int.toNat_natCast, ts, td]
  unfold putW
  rw [e, e]

/-- A byte stored into a row of bytes: a law for the walk; the world behind it is a letter. -/
theorem wpList_store8 {w : World} {ops : Array Oper} {rest : List Oper} {op : Oper} {a : Act} {Q : Exit → Act → World → Prop} (hgd : op.guard = none) (x y : Operand) (ho : op.op = .store 5 x y)
    (g i : Nat) (hx : a.eval x = .pointer (some ⟨g, i, none⟩)) (b : UInt8) (n : Int) (hn : n = (b.toNat : Int)) (hy : a.eval y = .int .u8 n) (xs : List UInt8) (hrow : Row8 w g xs) (hi : i < xs.length)
    (h : ∀ w', Row8 w' g (xs.set i b) → Below g w w' → wpList Try.prog ops Q rest (a.put op.dst undef) w') : wpList Try.prog ops Q (op :: rest) a w := by
  subst hn
  refine wpList_plain hgd fun K hK => ?_
  have hc := hrow.cell (i := i) (List.getElem?_eq_getElem hi)
  have hf := hrow.frozen i
  have hk := h _ (hrow.set i b) ((Below.refl g w).setCell (p := ⟨g, i, none⟩) (Nat.le_refl _) _)
  unfold v8 at hc
  unfold Oper.wp execOp
  simp only [ho, hx, hy]
  clear h
  go_simp
  exact hK _ _ hk

set_option maxRecDepth 100000 in
set_option maxHeartbeats 1000000 in
theorem put_no {f : Fr} (hok : f.Ok) (hr : rightB f = false) (w : World) :
    Calls Try.prog 12 #[frC f] w fun e w' => e = .returned (.tuple #[.slice none 0 0, .int .i64 1]) ∧ Below w.heap.size w w' := by
  have hb1 := Blk.new w 28 (frL f)
  have hB1 := (Below.refl w.heap.size w).alloc (Nat.le_refl _) (.cells (frL f).toArray 28)
  have HM := Lib.hid (fun W => hr ▸ maybe_any hok W)
  have HB := Lib.hid hb1
  have HB1 := Lib.hid hB1
  have HOK := Lib.hid hok
  clear hb1 hB1 hr hok
  go_enter Try.func12, Try.ntmps12
  unfold frC
  go_wp2_with ((with_reducible show wpList _ _ _ _ _ _); refine wpList_loadF rfl _ rfl w.heap.size (by rfl) f HOK.out HB.out ?_)
  refine (HM.out _).mono ?_
  rintro e w2 ⟨rfl, hb2⟩
  go_wp2_with fail
  go_ret2
  exact ⟨rfl, HB1.out.trans (hb2.mono HB1.out.size)⟩

set_option maxRecDepth 100000 in
set_option maxHeartbeats 4000000 in
theorem put_yes {f : Fr} (hok : f.Ok) (hr : rightB f = true) (w : World) :
    Calls Try.prog 12 #[frC f] w fun e w' => ∃ v, e = .returned (.tuple #[v, .int .i64 0]) ∧ Own8 w' w.heap.size v (putF f) ∧ Below w.heap.size w w' := by
  obtain ⟨T, O, I, L, P, s, d, hf, s4, d4, tl, ol, il, ll, pl, hput⟩ := put_hdr hok hr
  have HM := Lib.hid (fun W => hr ▸ maybe_any hok W)
  have hb1 := Blk.new w 28 (frL f)
  have hB1 := (Below.refl w.heap.size w).alloc (Nat.le_refl _) (.cells (frL f).toArray 28)
  have HB := Lib.hid hb1
  have HB1 := Lib.hid hB1
  have HOK := Lib.hid hok
  have HS4 := Lib.hid s4
  have HD4 := Lib.hid d4
  have HPUT := Lib.hid hput
  have hsrc : ∀ W, Blk W 28 w.heap.size (frL f) → ∀ j v, (s.map v8)[j]? = some v → W.cell? ⟨w.heap.size, 9 + j, none⟩ = some v := fun W hW j v hv => by
    refine hW.srcB j v ?_
    rw [hf]
    show ((s ++ z12).map v8)[j]? = some v
    rw [List.map_append, List.getElem?_append_left (List.getElem?_eq_some_iff.1 hv).1]; exact hv
  have hdst : ∀ W, Blk W 28 w.heap.size (frL f) → ∀ j v, (d.map v8)[j]? = some v → W.cell? ⟨w.heap.size, 26 + j, none⟩ = some v := fun W hW j v hv => by
    refine hW.dstB hok j v ?_
    rw [hf]
    show ((d ++ z12).map v8)[j]? = some v
    rw [List.map_append, List.getElem?_append_left (List.getElem?_eq_some_iff.1 hv).1]; exact hv
  have HSRC := Lib.hid hsrc
  have HDST := Lib.hid hdst
  obtain ⟨ke, hke⟩ : ∃ ke, f.keep = ke := ⟨_, rfl⟩
  have HFL := Lib.hid (show flagW f = if ke then 16384 else 0 by unfold flagW; rw [hke])
  rw [hke] at hf
  have hcells : frL f = [.int .i64 20, .int .i64 (T : Int), .int .i64 (O : Int), .int .i64 (I : Int), .bool false, .bool ke, .int .i64 (L : Int), .int .i64 (P : Int)] ++ (adL f.s ++ adL f.d) := by
    unfold frL frN
    rw [hf]
  have HC := Lib.hid hcells
  have u1 : IntKind.u8.wrap (O : Int) = (O : Int) := by rw [IntKind.wrap_u8]; omega
  have u6 : IntKind.u8.wrap (L : Int) = (L : Int) := by rw [IntKind.wrap_u8]; omega
  have u7 : IntKind.u8.wrap (P : Int) = (P : Int) := by rw [IntKind.wrap_u8]; omega
  have HU1 := Lib.hid (show (O : Int) = ((UInt8.ofNat O).toNat : Int) by rw [u8nat ol])
  have HU8 := Lib.hid (show (L : Int) = ((UInt8.ofNat L).toNat : Int) by rw [u8nat ll])
  have HU9 := Lib.hid (show (P : Int) = ((UInt8.ofNat P).toNat : Int) by rw [u8nat pl])
  clear hb1 hB1 hr hok s4 d4 hput hsrc hdst hke hcells hf
  go_enter Try.func12, Try.ntmps12
  unfold frC
  go_wp2_with ((with_reducible show wpList _ _ _ _ _ _); refine wpList_loadF rfl _ rfl w.heap.size (by rfl) f HOK.out HB.out ?_)
  refine (HM.out _).mono ?_
  rintro e w2 ⟨rfl, hb2⟩
  have hmk : ∀ W : World, (Instr.makeSlice 22 (.int .i64 20) (.int .i64 20)).run Try.prog W = .ok (.slice (some ⟨W.heap.size, 0, none⟩) 20 20) (W.alloc (.cells (madeCells #[.int .u8 0] 20) 5)) := fun W => run_make8 20 20 (Nat.le_refl _) (by omega) W
  have z2 : w.heap.size < w2.heap.size := by have := hb2.size; simp at this; omega
  have HQ2 := HB.out.below (by simp) hb2
  have HB2 := HB1.out.trans (hb2.mono HB1.out.size)
  have hrow : Row8 (w2.alloc (.cells (madeCells #[.int .u8 0] 20) 5)) w2.heap.size (List.replicate 20 0) := Row8.made w2 20
  have HQ3 := HQ2.alloc (.cells (madeCells #[.int .u8 0] 20) 5)
  have HB3 := HB2.alloc HB2.size (.cells (madeCells #[.int .u8 0] 20) 5)
  obtain ⟨w3, hw3⟩ : ∃ w3, w2.alloc (.cells (madeCells #[.int .u8 0] 20) 5) = w3 := ⟨_, rfl⟩
  obtain ⟨g, hg⟩ : ∃ g, w2.heap.size = g := ⟨_, rfl⟩
  have hmk2 := hmk w2
  rw [hw3, hg] at hmk2
  rw [hw3, hg] at hrow
  rw [hw3] at HQ3 HB3
  rw [hg] at z2
  have HGP := Lib.hid z2
  have HGW := Lib.hid (Nat.le_of_lt z2)
  have HR3 := Lib.hid hrow
  have HQ3 := Lib.hid HQ3
  have HB3 := Lib.hid HB3
  have HFIELD := Lib.hid (fun (W : World) (hW : Blk W 28 w.heap.size (frL f)) => show W.cell? ⟨w.heap.size, 2, none⟩ = some (.int .i64 (O : Int)) ∧ W.cell? ⟨w.heap.size, 1, none⟩ = some (.int .i64 (T : Int)) ∧ W.cell? ⟨w.heap.size, 3, none⟩ = some (.int .i64 (I : Int)) ∧ W.cell? ⟨w.heap.size, 5, none⟩ = some (.bool ke) ∧ W.cell? ⟨w.heap.size, 6, none⟩ = some (.int .i64 (L : Int)) ∧ W.cell? ⟨w.heap.size, 7, none⟩ = some (.int .i64 (P : Int)) from
    ⟨hW.cell (by rw [HC.out]; rfl), hW.cell (by rw [HC.out]; rfl), hW.cell (by rw [HC.out]; rfl), hW.cell (by rw [HC.out]; rfl), hW.cell (by rw [HC.out]; rfl), hW.cell (by rw [HC.out]; rfl)⟩)
  clear hw3 hmk hb2 HQ2 HB2 hrow hg z2 HM HB HB1
  have c69 : (69 : Int) = ((69 : UInt8).toNat : Int) := rfl
  have HC69 := Lib.hid c69
  clear c69
  go_wp2_with (first
    | ((with_reducible show wpList _ _ _ _ _ _); refine wpList_store8 rfl (.tmp 10) _ rfl g 0 (by rfl) (69 : UInt8) 69 HC69.out (by rfl) _ HR3.out (by simp) ?_; intro w4 hR4 hB4; have hR4' : Row8 w4 g (hdr 0 0 0 0 0 0 0 z4 z4) := hR4; have HR4 := Lib.hid hR4'; have HQ4 := Lib.hid (HQ3.out.below HGP.out hB4); have HB4 := Lib.hid (HB3.out.trans (hB4.mono HGW.out)); obtain ⟨j2, _, _, _, _, _⟩ := HFIELD.out w4 HQ4.out; clear hR4 hR4' hB4)
    | ((with_reducible show wpList _ _ _ _ _ _); refine wpList_store8 rfl (.tmp 15) (.tmp 14) rfl g 1 (by rfl) (UInt8.ofNat O) (O : Int) HU1.out (by rfl) _ HR4.out (by decide) ?_; intro w5 hR5 hB5; have hR5' : Row8 w5 g (hdr O 0 0 0 0 0 0 z4 z4) := hR5; have HR5 := Lib.hid hR5'; have HQ5 := Lib.hid (HQ4.out.below HGP.out hB5); have HB5 := Lib.hid (HB4.out.trans (hB5.mono HGW.out)); obtain ⟨_, j1, _, _, _, _⟩ := HFIELD.out w5 HQ5.out; clear hR5 hR5' hB5))
  refine (lay_any T tl HR5.out 20 2 rfl (by omega) _ _ rfl rfl).mono ?_
  rintro e w6 ⟨rfl, hR6, hB6⟩
  have hR6' : Row8 w6 g (hdr O T 0 0 0 0 0 z4 z4) := hR6
  have HR6 := Lib.hid hR6'
  have HQ6 := Lib.hid (HQ5.out.below HGP.out hB6)
  have HB6 := Lib.hid (HB5.out.trans (hB6.mono HGW.out))
  obtain ⟨_, _, j3, _, _, _⟩ := HFIELD.out w6 HQ6.out
  clear hR6 hR6' hB6 j1 j2
  go_wp2_with fail
  refine (lay_any I il HR6.out 20 4 rfl (by omega) _ _ rfl rfl).mono ?_
  rintro e w7 ⟨rfl, hR7, hB7⟩
  have hR7' : Row8 w7 g (hdr O T I 0 0 0 0 z4 z4) := hR7
  have HR7 := Lib.hid hR7'
  have HQ7 := Lib.hid (HQ6.out.below HGP.out hB7)
  have HB7 := Lib.hid (HB6.out.trans (hB7.mono HGW.out))
  obtain ⟨_, _, _, j5, _, _⟩ := HFIELD.out w7 HQ7.out
  clear hR7 hR7' hB7 j3
  cases ke with
  | true =>
    have HFL2 : Hid (flagW f = 16384) := Lib.hid (by rw [HFL.out]; rfl)
    go_wp2_with fail
    refine (lay_any 16384 (by omega) HR7.out 20 6 rfl (by omega) _ _ rfl rfl).mono ?_
    rintro e w8 ⟨rfl, hR8, hB8⟩
    have hR8' : Row8 w8 g (hdr O T I 16384 0 0 0 z4 z4) := hR8
    have HR8 := Lib.hid hR8'
    have HQ8 := Lib.hid (HQ7.out.below HGP.out hB8)
    have HB8 := Lib.hid (HB7.out.trans (hB8.mono HGW.out))
    clear hR8 hR8' hB8 j5
    obtain ⟨_, _, _, _, j6, j7⟩ := HFIELD.out w8 HQ8.out
    have hl0 : (hdr O T I 16384 0 0 0 z4 z4).length = 20 := rfl
    have hl1 : (hdr O T I 16384 L 0 0 z4 z4).length = 20 := rfl
    have hl2 : (hdr O T I 16384 L P 0 z4 z4).length = 20 := rfl
    have hl3 : (hdr O T I 16384 L P 0 s z4).length = 20 := hdr_len _ _ _ _ _ _ _ _ _ HS4.out rfl
    have hl4 : (hdr O T I 16384 L P 0 s d).length = 20 := hdr_len _ _ _ _ _ _ _ _ _ HS4.out HD4.out
    have HL3 := Lib.hid hl3
    have HL4 := Lib.hid hl4
    clear hl3 hl4
    go_wp2_with (first
      | ((with_reducible show wpList _ _ _ _ _ _); refine wpList_store8 rfl (.tmp 36) (.tmp 32) rfl g 8 (by rfl) (UInt8.ofNat L) (L : Int) HU8.out (by rfl) _ HR8.out (by rw [hl0]; decide) ?_; intro wa hRa hBa; have hRa' : Row8 wa g (hdr O T I 16384 L 0 0 z4 z4) := hRa; have HRa := Lib.hid hRa'; have HBa := Lib.hid hBa; clear hRa hBa hRa')
      | ((with_reducible show wpList _ _ _ _ _ _); refine wpList_store8 rfl (.tmp 37) (.tmp 35) rfl g 9 (by rfl) (UInt8.ofNat P) (P : Int) HU9.out (by rfl) _ HRa.out (by rw [hl1]; decide) ?_; intro wb hRb hBb; have hRb' : Row8 wb g (hdr O T I 16384 L P 0 z4 z4) := hRb; have HRb := Lib.hid hRb'; have HQb := Lib.hid ((HQ8.out.below HGP.out HBa.out).below HGP.out hBb); have HBb := Lib.hid (HB8.out.trans ((HBa.out.trans hBb).mono HGW.out)); clear hRb hBb hRb' HRa HBa))
    go_region_law (refine step_copy_splice rfl (.tmp 39) (.tmp 42) 22 22 rfl 5 Try.underlying22 size8 (some ⟨g, 12, none⟩) (some ⟨w.heap.size, 9, none⟩) 8 8 4 16 (by simp [Act.eval, Act.put]) (by simp [Act.eval, Act.put]) g 12 ((hdr O T I 16384 L P 0 z4 z4).map v8) 5 HRb.out (s.map v8) (by rw [List.length_map, HS4.out]; rfl) (fun h0 => ⟨rfl, ⟨w.heap.size, 9, none⟩, rfl, fun j v hv => by rw [add_plain]; exact HSRC.out wb HQb.out j v hv⟩) (by rw [List.length_map, List.length_map, HS4.out, hl2]; decide) (oneCell8 _) g wb (Below.refl _ _).drew (Nat.le_refl _) ?_; intro wc hRc hBc; rw [List.length_map, HS4.out])
    rw [splice_s _ _ _ _ _ _ _ _ _ _ HS4.out rfl] at hRc
    have HRc := Lib.hid hRc.out
    have HQc := Lib.hid (HQb.out.below HGP.out hBc)
    have HBc := Lib.hid (HBb.out.trans (hBc.mono HGW.out))
    clear hRc hBc HRb HQb HBb
    go_wp2_with fail
    go_region_law (refine step_copy_splice rfl (.tmp 45) (.tmp 48) 22 22 rfl 5 Try.underlying22 size8 (some ⟨g, 16, none⟩) (some ⟨w.heap.size, 26, none⟩) 4 4 4 16 (by simp [Act.eval, Act.put]) (by simp [Act.eval, Act.put]) g 16 ((hdr O T I 16384 L P 0 s z4).map v8) 5 HRc.out (d.map v8) (by rw [List.length_map, HD4.out]; rfl) (fun h0 => ⟨rfl, ⟨w.heap.size, 26, none⟩, rfl, fun j v hv => by rw [add_plain]; exact HDST.out wc HQc.out j v hv⟩) (by rw [List.length_map, List.length_map, HD4.out, HL3.out]; decide) (oneCell8 _) g wc (Below.refl _ _).drew (Nat.le_refl _) ?_; intro wd hRd hBd; rw [List.length_map, HD4.out])
    rw [splice_d _ _ _ _ _ _ _ _ _ _ HS4.out HD4.out rfl] at hRd
    have HRd : Hid (Row8 wd g (hdr O T I 16384 L P 0 s d)) := Lib.hid hRd.out
    have HBd := Lib.hid (HBc.out.trans (hBd.mono HGW.out))
    clear hRd hBd HRc HQc HBc
    have hrd : Rd wd wd.heap.size (some ⟨g, 0, none⟩) 20 (hdr O T I 16384 L P 0 s d) := by have := HRd.out.rd HRd.out.lt; rwa [HL4.out] at this
    have hck := ckOf_le (hdr O T I 16384 L P 0 s d)
    have HFIN := Lib.hid (HPUT.out 16384)
    obtain ⟨c, hc⟩ : ∃ c, ckOf (hdr O T I 16384 L P 0 s d) = c := ⟨_, rfl⟩
    rw [hc] at HFIN hck
    have HSUM := Lib.hid (sum_row wd _ _ (CellsAt.one hrd (c := 20) (by omega) (small_max (by omega))) 1 1 rfl (by omega) (by simp [HL4.out]) c (by simpa using hc) 0)
    have HRe := Lib.hid (HRd.out.alloc (.cells #[.slice (some ⟨g, 0, none⟩) 20 20] 22))
    have HBe := Lib.hid (HBd.out.alloc HBd.out.size (.cells #[.slice (some ⟨g, 0, none⟩) 20 20] 22))
    have wc' : IntKind.i64.wrap (c : Int) = (c : Int) := by rw [IntKind.wrap_i64]; omega
    clear hrd hc HRd HBd
    go_wp2_with fail
    refine HSUM.out.mono ?_
    rintro e we ⟨rfl, rfl⟩
    go_wp2_with fail
    refine (lay_any c (by omega) (show Row8 ((wd.alloc (.cells #[.slice (some ⟨g, 0, none⟩) 20 20] 22)).drewN 0) g _ from HRe.out) 20 10 HL4.out (by omega) _ _ rfl rfl).mono ?_
    rintro e wf ⟨rfl, hRf, hBf⟩
    have hRf' : Row8 wf g (hdr O T I 16384 L P c s d) := hRf
    have HBf := Lib.hid ((below_drewN HBe.out 0).trans (hBf.mono HGW.out))
    have hlc : (hdr O T I 16384 L P c s d).length = 20 := hdr_len _ _ _ _ _ _ _ _ _ HS4.out HD4.out
    have how := hRf'.own (base := w.heap.size) HGW.out (Nat.le_refl _) (by rw [hlc]; simp [maxLen])
    rw [List.take_length, hlc] at how
    clear hRf hRf' hBf
    go_wp2_with fail
    go_ret2
    exact ⟨_, rfl, by unfold putF; rw [HFL2.out, HFIN.out]; exact how, HBf.out⟩
  | false =>
    have HFL2 : Hid (flagW f = 0) := Lib.hid (by rw [HFL.out]; rfl)
    obtain ⟨_, _, _, _, j6, j7⟩ := HFIELD.out w7 HQ7.out
    have hl0 : (hdr O T I 0 0 0 0 z4 z4).length = 20 := rfl
    have hl1 : (hdr O T I 0 L 0 0 z4 z4).length = 20 := rfl
    have hl2 : (hdr O T I 0 L P 0 z4 z4).length = 20 := rfl
    have hl3 : (hdr O T I 0 L P 0 s z4).length = 20 := hdr_len _ _ _ _ _ _ _ _ _ HS4.out rfl
    have hl4 : (hdr O T I 0 L P 0 s d).length = 20 := hdr_len _ _ _ _ _ _ _ _ _ HS4.out HD4.out
    have HL3 := Lib.hid hl3
    have HL4 := Lib.hid hl4
    clear hl3 hl4
    go_wp2_with (first
      | ((with_reducible show wpList _ _ _ _ _ _); refine wpList_store8 rfl (.tmp 36) (.tmp 32) rfl g 8 (by rfl) (UInt8.ofNat L) (L : Int) HU8.out (by rfl) _ HR7.out (by rw [hl0]; decide) ?_; intro wa hRa hBa; have hRa' : Row8 wa g (hdr O T I 0 L 0 0 z4 z4) := hRa; have HRa := Lib.hid hRa'; have HBa := Lib.hid hBa; clear hRa hBa hRa')
      | ((with_reducible show wpList _ _ _ _ _ _); refine wpList_store8 rfl (.tmp 37) (.tmp 35) rfl g 9 (by rfl) (UInt8.ofNat P) (P : Int) HU9.out (by rfl) _ HRa.out (by rw [hl1]; decide) ?_; intro wb hRb hBb; have hRb' : Row8 wb g (hdr O T I 0 L P 0 z4 z4) := hRb; have HRb := Lib.hid hRb'; have HQb := Lib.hid ((HQ7.out.below HGP.out HBa.out).below HGP.out hBb); have HBb := Lib.hid (HB7.out.trans ((HBa.out.trans hBb).mono HGW.out)); clear hRb hBb hRb' HRa HBa))
    go_region_law (refine step_copy_splice rfl (.tmp 39) (.tmp 42) 22 22 rfl 5 Try.underlying22 size8 (some ⟨g, 12, none⟩) (some ⟨w.heap.size, 9, none⟩) 8 8 4 16 (by simp [Act.eval, Act.put]) (by simp [Act.eval, Act.put]) g 12 ((hdr O T I 0 L P 0 z4 z4).map v8) 5 HRb.out (s.map v8) (by rw [List.length_map, HS4.out]; rfl) (fun h0 => ⟨rfl, ⟨w.heap.size, 9, none⟩, rfl, fun j v hv => by rw [add_plain]; exact HSRC.out wb HQb.out j v hv⟩) (by rw [List.length_map, List.length_map, HS4.out, hl2]; decide) (oneCell8 _) g wb (Below.refl _ _).drew (Nat.le_refl _) ?_; intro wc hRc hBc; rw [List.length_map, HS4.out])
    rw [splice_s _ _ _ _ _ _ _ _ _ _ HS4.out rfl] at hRc
    have HRc := Lib.hid hRc.out
    have HQc := Lib.hid (HQb.out.below HGP.out hBc)
    have HBc := Lib.hid (HBb.out.trans (hBc.mono HGW.out))
    clear hRc hBc HRb HQb HBb
    go_wp2_with fail
    go_region_law (refine step_copy_splice rfl (.tmp 45) (.tmp 48) 22 22 rfl 5 Try.underlying22 size8 (some ⟨g, 16, none⟩) (some ⟨w.heap.size, 26, none⟩) 4 4 4 16 (by simp [Act.eval, Act.put]) (by simp [Act.eval, Act.put]) g 16 ((hdr O T I 0 L P 0 s z4).map v8) 5 HRc.out (d.map v8) (by rw [List.length_map, HD4.out]; rfl) (fun h0 => ⟨rfl, ⟨w.heap.size, 26, none⟩, rfl, fun j v hv => by rw [add_plain]; exact HDST.out wc HQc.out j v hv⟩) (by rw [List.length_map, List.length_map, HD4.out, HL3.out]; decide) (oneCell8 _) g wc (Below.refl _ _).drew (Nat.le_refl _) ?_; intro wd hRd hBd; rw [List.length_map, HD4.out])
    rw [splice_d _ _ _ _ _ _ _ _ _ _ HS4.out HD4.out rfl] at hRd
    have HRd : Hid (Row8 wd g (hdr O T I 0 L P 0 s d)) := Lib.hid hRd.out
    have HBd := Lib.hid (HBc.out.trans (hBd.mono HGW.out))
    clear hRd hBd HRc HQc HBc
    have hrd : Rd wd wd.heap.size (some ⟨g, 0, none⟩) 20 (hdr O T I 0 L P 0 s d) := by have := HRd.out.rd HRd.out.lt; rwa [HL4.out] at this
    have hck := ckOf_le (hdr O T I 0 L P 0 s d)
    have HFIN := Lib.hid (HPUT.out 0)
    obtain ⟨c, hc⟩ : ∃ c, ckOf (hdr O T I 0 L P 0 s d) = c := ⟨_, rfl⟩
    rw [hc] at HFIN hck
    have HSUM := Lib.hid (sum_row wd _ _ (CellsAt.one hrd (c := 20) (by omega) (small_max (by omega))) 1 1 rfl (by omega) (by simp [HL4.out]) c (by simpa using hc) 0)
    have HRe := Lib.hid (HRd.out.alloc (.cells #[.slice (some ⟨g, 0, none⟩) 20 20] 22))
    have HBe := Lib.hid (HBd.out.alloc HBd.out.size (.cells #[.slice (some ⟨g, 0, none⟩) 20 20] 22))
    have wc' : IntKind.i64.wrap (c : Int) = (c : Int) := by rw [IntKind.wrap_i64]; omega
    clear hrd hc HRd HBd
    go_wp2_with fail
    refine HSUM.out.mono ?_
    rintro e we ⟨rfl, rfl⟩
    go_wp2_with fail
    refine (lay_any c (by omega) (show Row8 ((wd.alloc (.cells #[.slice (some ⟨g, 0, none⟩) 20 20] 22)).drewN 0) g _ from HRe.out) 20 10 HL4.out (by omega) _ _ rfl rfl).mono ?_
    rintro e wf ⟨rfl, hRf, hBf⟩
    have hRf' : Row8 wf g (hdr O T I 0 L P c s d) := hRf
    have HBf := Lib.hid ((below_drewN HBe.out 0).trans (hBf.mono HGW.out))
    have hlc : (hdr O T I 0 L P c s d).length = 20 := hdr_len _ _ _ _ _ _ _ _ _ HS4.out HD4.out
    have how := hRf'.own (base := w.heap.size) HGW.out (Nat.le_refl _) (by rw [hlc]; simp [maxLen])
    rw [List.take_length, hlc] at how
    clear hRf hRf' hBf
    go_wp2_with fail
    go_ret2
    exact ⟨_, rfl, by unfold putF; rw [HFL2.out, HFIN.out]; exact how, HBf.out⟩
end Go.Proofs.Ytkdliadigalgaaa
