/-
  The contract of six.Put.
-/
import Derived.Test.YthicbdjambmnpaaSMayBe
namespace Go.Proofs.Ythicbdjambmnpaa
open Go.RowKit Go.Lib

theorem splice_n (N : Nat) : splice ((hdr 0 0 0 z16 z16).map v8) 4 ((be2 N).map v8) = (hdr N 0 0 z16 z16).map v8 := by rfl
theorem splice_s (N P H : Nat) (s d e : List UInt8) (hs : s.length = 16) (he : e.length = 16) : splice ((hdr N P H e d).map v8) 8 (s.map v8) = (hdr N P H s d).map v8 := by
  obtain ⟨a0, a1, a2, a3, a4, a5, a6, a7, a8, a9, a10, a11, a12, a13, a14, a15, rfl⟩ := sixteen hs
  obtain ⟨b0, b1, b2, b3, b4, b5, b6, b7, b8, b9, b10, b11, b12, b13, b14, b15, rfl⟩ := sixteen he
  rfl
theorem splice_d (N P H : Nat) (s d e : List UInt8) (hs : s.length = 16) (hd : d.length = 16) (he : e.length = 16) : splice ((hdr N P H s e).map v8) 24 (d.map v8) = (hdr N P H s d).map v8 := by
  obtain ⟨a0, a1, a2, a3, a4, a5, a6, a7, a8, a9, a10, a11, a12, a13, a14, a15, rfl⟩ := sixteen hs
  obtain ⟨b0, b1, b2, b3, b4, b5, b6, b7, b8, b9, b10, b11, b12, b13, b14, b15, rfl⟩ := sixteen he
  obtain ⟨c0, c1, c2, c3, c4, c5, c6, c7, c8, c9, c10, c11, c12, c13, c14, c15, rfl⟩ := sixteen hd
  rfl

/-- A byte stored into a row of bytes: a law for the walk; the world behind it is a letter. -/
theorem wpList_store8 {w : World} {ops : Array Oper} {rest : List Oper} {op : Oper} {a : Act} {Q : Exit → Act → World → Prop} (hgd : op.guard = none) (x y : Operand) (ho : op.op = .store 5 x y)
    (g i : Nat) (hx : a.eval x = .pointer (some ⟨g, i, none⟩)) (b : UInt8) (n : Int) (hn : n = (b.toNat : Int)) (hy : a.eval y = .int .u8 n) (xs : List UInt8) (hrow : Row8 w g xs) (hi : i < xs.length)
    (h : ∀ w', Row8 w' g (xs.set i b) → Below g w w' → wpList Try.prog ops Q rest (a.put op.dst undef) w') : wpList Try.prog ops Q (op :: rest) a w := by
  subst hn
  refine wpList_plain hgd fun K hK => ?_
  have hc := hrow.cell (i := i) (List.getElem?_eq_getElem hi)
  have hf := hrow.frozen i
  have hk := h _ (hrow.set i b) ((Below.refl g w).setCell (p := ⟨g, i, none⟩) (Nat.le_refl _) _)
  unfold v8 at hc
  unfold Oper.wp execOp
  simp only [ho, hx, hy]
  clear h
  go_simp
  exact hK _ _ hk

set_option maxRecDepth 100000 in
set_option maxHeartbeats 1000000 in
theorem put_no {f : Fr} (hok : f.Ok) (hr : rightB f = false) (w : World) :
    Calls Try.prog 12 #[frC f] w fun e w' => e = .returned (.tuple #[.slice none 0 0, .int .i64 1]) ∧ Below w.heap.size w w' := by
  have hb1 := Blk.new w 28 (frL f)
  have hB1 := (Below.refl w.heap.size w).alloc (Nat.le_refl _) (.cells (frL f).toArray 28)
  have HM := Lib.hid (fun W => hr ▸ maybe_any hok W)
  have HB := Lib.hid hb1
  have HB1 := Lib.hid hB1
  have HOK := Lib.hid hok
  clear hb1 hB1 hr hok
  go_enter Try.func12, Try.ntmps12
  unfold frC
  go_wp2_with ((with_reducible show wpList _ _ _ _ _ _); refine wpList_loadF rfl _ rfl w.heap.size (by rfl) f HOK.out HB.out ?_)
  refine (HM.out _).mono ?_
  rintro e w2 ⟨rfl, hb2⟩
  go_wp2_with fail
  go_ret2
  exact ⟨rfl, HB1.out.trans (hb2.mono HB1.out.size)⟩

set_option maxRecDepth 100000 in
set_option maxHeartbeats 4000000 in
theorem put_yes {f : Fr} (hok : f.Ok) (hr : rightB f = true) (w : World) :
    Calls Try.prog 12 #[frC f] w fun e w' => ∃ v, e = .returned (.tuple #[v, .int .i64 0]) ∧ Own8 w' w.heap.size v (putF f) ∧ Below w.heap.size w w' := by
  obtain ⟨N, P, H, hf, n1, h1, p1, _⟩ := (right_good hr).nats
  have hput : putF f = hdr N P H f.s.b f.d.b := by rw [hf]; exact putF_nats N P H _ _
  obtain ⟨T, hT⟩ : ∃ T, 40 + N = T := ⟨_, rfl⟩
  rw [hT] at hf
  have HM := Lib.hid (fun W => hr ▸ maybe_any hok W)
  have hb1 := Blk.new w 28 (frL f)
  have hB1 := (Below.refl w.heap.size w).alloc (Nat.le_refl _) (.cells (frL f).toArray 28)
  have HB := Lib.hid hb1
  have HB1 := Lib.hid hB1
  have HOK := Lib.hid hok
  have HPUT := Lib.hid hput
  have HSRC := Lib.hid (fun W (hW : Blk W 28 w.heap.size (frL f)) => hW.srcB)
  have HDST := Lib.hid (fun W (hW : Blk W 28 w.heap.size (frL f)) => hW.dstB hok)
  have HFIELD := Lib.hid (fun (W : World) (hW : Blk W 28 w.heap.size (frL f)) => show W.cell? ⟨w.heap.size, 1, none⟩ = some (.int .i64 (T : Int)) ∧ W.cell? ⟨w.heap.size, 2, none⟩ = some (.int .i64 (H : Int)) ∧ W.cell? ⟨w.heap.size, 5, none⟩ = some (.int .i64 (P : Int)) from
    ⟨hW.cell (by rw [hf]; rfl), hW.cell (by rw [hf]; rfl), hW.cell (by rw [hf]; rfl)⟩)
  obtain ⟨s, hs⟩ : ∃ s, f.s.b = s := ⟨_, rfl⟩
  obtain ⟨d, hd⟩ : ∃ d, f.d.b = d := ⟨_, rfl⟩
  have hs16 := hok.s
  have hd16 := hok.d
  rw [hs] at hs16 HSRC HPUT
  rw [hd] at hd16 HDST HPUT
  have HS16 := Lib.hid hs16
  have HD16 := Lib.hid hd16
  have hsub : IntKind.i64.wrap ((T : Int) - 40) = (N : Int) := by rw [IntKind.wrap_i64]; omega
  have hwn : IntKind.u64.wrap (N : Int) = (N : Int) := by rw [IntKind.wrap_u64]; omega
  have u1 : IntKind.u8.wrap (P : Int) = (P : Int) := by rw [IntKind.wrap_u8]; omega
  have u2 : IntKind.u8.wrap (H : Int) = (H : Int) := by rw [IntKind.wrap_u8]; omega
  have HU1 := Lib.hid (show (P : Int) = ((UInt8.ofNat P).toNat : Int) by rw [u8nat p1])
  have HU2 := Lib.hid (show (H : Int) = ((UInt8.ofNat H).toNat : Int) by rw [u8nat h1])
  have HU96 := Lib.hid (show (96 : Int) = ((96 : UInt8).toNat : Int) from rfl)
  have hp := fun W => put_any N 2 true W
  rw [show bytesOf N (sizeOf8 2) true = be2 N from be2_dig N] at hp
  have HP := Lib.hid hp
  clear hb1 hB1 hr hok hput hf hs hd hs16 hd16 hp hT
  go_enter Try.func12, Try.ntmps12
  unfold frC
  go_wp2_with ((with_reducible show wpList _ _ _ _ _ _); refine wpList_loadF rfl _ rfl w.heap.size (by rfl) f HOK.out HB.out ?_)
  refine (HM.out _).mono ?_
  rintro e w2 ⟨rfl, hb2⟩
  have hmk : ∀ W : World, (Instr.makeSlice 22 (.int .i64 40) (.int .i64 40)).run Try.prog W = .ok (.slice (some ⟨W.heap.size, 0, none⟩) 40 40) (W.alloc (.cells (madeCells #[.int .u8 0] 40) 5)) := fun W => run_make8 40 40 (Nat.le_refl _) (by omega) W
  have z2 : w.heap.size < w2.heap.size := by have := hb2.size; simp at this; omega
  have HQ2 := HB.out.below (by simp) hb2
  have HB2 := HB1.out.trans (hb2.mono HB1.out.size)
  have hrow : Row8 (w2.alloc (.cells (madeCells #[.int .u8 0] 40) 5)) w2.heap.size (List.replicate 40 0) := Row8.made w2 40
  have HQ3 := HQ2.alloc (.cells (madeCells #[.int .u8 0] 40) 5)
  have HB3 := HB2.alloc HB2.size (.cells (madeCells #[.int .u8 0] 40) 5)
  obtain ⟨w3, hw3⟩ : ∃ w3, w2.alloc (.cells (madeCells #[.int .u8 0] 40) 5) = w3 := ⟨_, rfl⟩
  obtain ⟨g, hg⟩ : ∃ g, w2.heap.size = g := ⟨_, rfl⟩
  have hmk2 := hmk w2
  rw [hw3, hg] at hmk2
  rw [hw3, hg] at hrow
  rw [hw3] at HQ3 HB3
  rw [hg] at z2
  have HGP := Lib.hid z2
  have HGW := Lib.hid (Nat.le_of_lt z2)
  have HR3 := Lib.hid hrow
  have HQ3 := Lib.hid HQ3
  have HB3 := Lib.hid HB3
  clear hw3 hmk hb2 HQ2 HB2 hrow hg z2 HM HB HB1
  go_wp2_with ((with_reducible show wpList _ _ _ _ _ _); refine wpList_store8 rfl (.tmp 10) _ rfl g 0 (by rfl) (96 : UInt8) 96 HU96.out (by rfl) _ HR3.out (by simp) ?_; intro w4 hR4 hB4; have hR4' : Row8 w4 g (hdr 0 0 0 z16 z16) := hR4; have HR4 := Lib.hid hR4'; have HQ4 := Lib.hid (HQ3.out.below HGP.out hB4); have HB4 := Lib.hid (HB3.out.trans (hB4.mono HGW.out)); obtain ⟨j1, _, _⟩ := HFIELD.out w4 HQ4.out; clear hR4 hR4' hB4)
  have j1d : w4.drew.cell? ⟨w.heap.size, 1, none⟩ = some (.int .i64 (T : Int)) := j1
  have hl0 : (hdr 0 0 0 z16 z16).length = 40 := rfl
  have hgl := HR4.out.lt
  have HL0 := Lib.hid hl0
  clear hl0
  go_region_law (first
    | (rw [if_pos (by rfl)]; go_simp; refine (HP.out _).mono ?_; rintro e w5 ⟨v, rfl, hown, hb⟩; obtain ⟨A1, m1, c1, rfl, hm1, _, _, hrd⟩ := hown.sl; have hm2 : m1 = 2 := hm1; subst hm2; obtain ⟨ad, rfl, hc⟩ := hrd.cells (by omega); have HD := Lib.hid hc; have HB5 := Lib.hid hb; have hR5 : Row8 w5 g (hdr 0 0 0 z16 z16) := (hb.block g hgl).trans HR4.out; have HR5 := Lib.hid hR5; clear hc hm1 hb hown hrd hR5)
    | (refine step_copy_splice rfl (.tmp 12) (.tmp 17) 22 22 rfl 5 Try.underlying22 size8 (some ⟨g, 4, none⟩) (some ad) 36 36 2 c1 (by simp [Act.eval]) (by simp [Act.eval]) g 4 ((hdr 0 0 0 z16 z16).map v8) 5 HR5.out ((be2 N).map v8) (by rw [List.length_map, be2_len]; rfl) (fun h0 => ⟨rfl, ad, rfl, HD.out⟩) (by rw [List.length_map, List.length_map, be2_len, HL0.out]; decide) (oneCell8 _) g w5 (Below.refl _ _) (Nat.le_refl _) ?_; intro w6 HG6 hB6; rw [splice_n] at HG6))
  have HR6 : Hid (Row8 w6 g (hdr N 0 0 z16 z16)) := Lib.hid HG6.out
  have hB46 : Below g w4 w6 := (below_drewN (Below.refl g w4) 1).trans ((HB5.out.mono (Nat.le_of_lt hgl)).trans hB6)
  have HQ6 := Lib.hid (HQ4.out.below HGP.out hB46)
  have HB6 := Lib.hid (HB4.out.trans (hB46.mono HGW.out))
  obtain ⟨_, j2, j5⟩ := HFIELD.out w6 HQ6.out
  have HL1 := Lib.hid (show (hdr N 0 0 z16 z16).length = 40 from rfl)
  have HL2 := Lib.hid (show (hdr N P 0 z16 z16).length = 40 from rfl)
  have HL3 := Lib.hid (show (hdr N P H z16 z16).length = 40 from rfl)
  have HL4 := Lib.hid (show (hdr N P H s z16).length = 40 from hdr_len _ _ _ _ _ HS16.out rfl)
  have HL5 := Lib.hid (show (hdr N P H s d).length = 40 from hdr_len _ _ _ _ _ HS16.out HD16.out)
  clear HG6 hB6 hB46 HB5 HR5 HD j1 j1d HR4 HQ4 HB4 hgl hsub hwn
  go_wp2_with (first
    | ((with_reducible show wpList _ _ _ _ _ _); refine wpList_store8 rfl (.tmp 27) (.tmp 23) rfl g 6 (by rfl) (UInt8.ofNat P) (P : Int) HU1.out (by rfl) _ HR6.out (by rw [HL1.out]; decide) ?_; intro wa hRa hBa; have hRa' : Row8 wa g (hdr N P 0 z16 z16) := hRa; have HRa := Lib.hid hRa'; have HBa := Lib.hid hBa; clear hRa hBa hRa')
    | ((with_reducible show wpList _ _ _ _ _ _); refine wpList_store8 rfl (.tmp 28) (.tmp 26) rfl g 7 (by rfl) (UInt8.ofNat H) (H : Int) HU2.out (by rfl) _ HRa.out (by rw [HL2.out]; decide) ?_; intro wb hRb hBb; have hRb' : Row8 wb g (hdr N P H z16 z16) := hRb; have HRb := Lib.hid hRb'; have HQb := Lib.hid ((HQ6.out.below HGP.out HBa.out).below HGP.out hBb); have HBb := Lib.hid (HB6.out.trans ((HBa.out.trans hBb).mono HGW.out)); clear hRb hBb hRb' HRa HBa))
  go_region_law (refine step_copy_splice rfl (.tmp 30) (.tmp 33) 22 22 rfl 5 Try.underlying22 size8 (some ⟨g, 8, none⟩) (some ⟨w.heap.size, 7, none⟩) 32 32 16 16 (by simp [Act.eval, Act.put]) (by simp [Act.eval, Act.put]) g 8 ((hdr N P H z16 z16).map v8) 5 HRb.out (s.map v8) (by rw [List.length_map, HS16.out]; rfl) (fun h0 => ⟨rfl, ⟨w.heap.size, 7, none⟩, rfl, fun j v hv => by rw [add_plain]; exact HSRC.out wb HQb.out j v hv⟩) (by rw [List.length_map, List.length_map, HS16.out, HL3.out]; decide) (oneCell8 _) g wb (Below.refl _ _).drew (Nat.le_refl _) ?_; intro wc hRc hBc; rw [List.length_map, HS16.out])
  rw [splice_s _ _ _ _ _ _ HS16.out rfl] at hRc
  have HRc := Lib.hid hRc.out
  have HQc := Lib.hid (HQb.out.below HGP.out hBc)
  have HBc := Lib.hid (HBb.out.trans (hBc.mono HGW.out))
  clear hRc hBc HRb HQb HBb
  go_wp2_with fail
  go_region_law (refine step_copy_splice rfl (.tmp 36) (.tmp 39) 22 22 rfl 5 Try.underlying22 size8 (some ⟨g, 24, none⟩) (some ⟨w.heap.size, 24, none⟩) 16 16 16 16 (by simp [Act.eval, Act.put]) (by simp [Act.eval, Act.put]) g 24 ((hdr N P H s z16).map v8) 5 HRc.out (d.map v8) (by rw [List.length_map, HD16.out]; rfl) (fun h0 => ⟨rfl, ⟨w.heap.size, 24, none⟩, rfl, fun j v hv => by rw [add_plain]; exact HDST.out wc HQc.out j v hv⟩) (by rw [List.length_map, List.length_map, HD16.out, HL4.out]; decide) (oneCell8 _) g wc (Below.refl _ _).drew (Nat.le_refl _) ?_; intro wd hRd hBd; rw [List.length_map, HD16.out])
  rw [splice_d _ _ _ _ _ _ HS16.out HD16.out rfl] at hRd
  have hRd' : Row8 wd g (hdr N P H s d) := hRd.out
  have HBd := Lib.hid (HBc.out.trans (hBd.mono HGW.out))
  have how := hRd'.own (base := w.heap.size) HGW.out (Nat.le_refl _) (by rw [HL5.out]; simp [maxLen])
  rw [List.take_length, HL5.out] at how
  have HOW := Lib.hid how
  clear hRd hRd' hBd HRc HQc HBc how
  go_wp2_with fail
  go_ret2
  exact ⟨_, rfl, by rw [HPUT.out]; exact HOW.out, HBd.out⟩
end Go.Proofs.Ythicbdjambmnpaa
