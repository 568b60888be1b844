/-
  The statements' whole: a packet with extensions.
-/
import Derived.Test.YthicbdjambmnpaaSLaid
namespace Go.Proofs.Ythicbdjambmnpaa
open Go.RowKit Go.Lib

/-- A struct put together: a law for the walk, under a guard that says yes, or under none. -/
theorem wpList_buildw {w : World} {ops : Array Oper} {rest : List Oper} {op : Oper} {a : Act} {Q : Exit → Act → World → Prop} (T : TypeId) (parts : Array (Nat × Operand)) (ho : op.op = .build T parts) (hw : Region.wanted op (yielded ops a.tmps) = true) (vals : List (Nat × Value)) (hv : (parts.map fun (i, x) => (i, a.eval x)).toList = vals)
    (cells : Array Value) (hb : Try.prog.built T vals = some cells) (hk : wpList Try.prog ops Q rest (a.put op.dst (.agg cells)) w) : wpList Try.prog ops Q (op :: rest) a w :=
  BigFrame.wpList_want hw fun K hK => by
    unfold Oper.wp execOp
    simp only [ho, Sem.run_bind, run_build w T _ cells (by rw [hv]; exact hb), Result.andThen_ok, Sem.run_pure]
    exact hK _ _ hk
/-- The header that is laid ahead of extensions. -/
def wholeH (f : Fr) (T : Nat) : Fr := ⟨40, (T : Int), f.hop, false, 0, f.proto, f.s, f.d⟩
theorem wholeH_ok {f : Fr} (h : f.Ok) (T : Nat) : (wholeH f T).Ok := ⟨h.s, h.d⟩
theorem wholeH_right {f : Fr} (hr : rightB f = true) {T : Nat} (h0 : 40 ≤ T) (h1 : T ≤ 65575) : rightB (wholeH f T) = true := by
  have g := right_good hr
  have g6 := g.o0
  have g7 := g.o1
  have g8 := g.p0
  have g9 := g.p1
  have ga := g.ext
  have gb := g.s
  have gc := g.d
  show (decide ((40 : Int) = 40) && (inB (T : Int) 40 65575 && (!false && (decide ((0 : Int) = 0) && (inB f.hop 0 255 && (inB f.proto 0 255 && (!extI f.proto && (f.s.six && f.d.six)))))))) = true
  rw [ga, gb, gc, show inB (T : Int) 40 65575 = true from decide_eq_true ⟨by omega, by omega⟩, show inB f.hop 0 255 = true from decide_eq_true ⟨g6, g7⟩, show inB f.proto 0 255 = true from decide_eq_true ⟨g8, g9⟩]
  rfl
theorem wholeH_put (f : Fr) (l : List Ex) (load : List UInt8) : (putF (wholeH f (40 + (sumN l + load.length)))).set 6 (UInt8.ofNat (laidF l f.proto.toNat).1) ++ (laidF l f.proto.toNat).2 ++ load = wholeB f l load := by
  unfold wholeB putF wholeH
  simp only
  rw [show (((40 + (sumN l + load.length) : Nat) : Int) - 40).toNat = sumN l + load.length by omega, List.append_assoc]
  rfl

set_option maxRecDepth 100000 in
set_option maxHeartbeats 4000000 in
theorem whole_any {f : Fr} (hok : f.Ok) (hr : rightB f = true) (A : Option Addr) (len cap : Nat) (l : List Ex) (hlen : len ≤ 9) (A2 : Option Addr) (len2 cap2 : Nat) (load : List UInt8) (hlen2 : len2 ≤ 300) (w : World) (hI : ExtsAt w w.heap.size A len l) (hJ : Rd w w.heap.size A2 len2 load) :
    Calls Try.prog 17 #[frC f, .slice A len cap, .slice A2 len2 cap2] w fun e w' => ∃ v, e = .returned v ∧ Own8 w' w.heap.size v (wholeB f l load) ∧ Below w.heap.size w w' := by
  have g := right_good hr
  have hP : f.proto.toNat < 256 := by have := g.p0; have := g.p1; omega
  have hpe : ((f.proto.toNat : Nat) : Int) = f.proto := by have := g.p0; omega
  have hb1 := Blk.new w 28 (frL f)
  have hB1 := (Below.refl w.heap.size w).alloc (Nat.le_refl _) (.cells (frL f).toArray 28)
  have hz1 : (w.alloc (.cells (frL f).toArray 28)).heap.size = w.heap.size + 1 := by simp
  have k5 := hb1.cell (i := 5) (v := .int .i64 f.proto) rfl
  have HFIELD := Lib.hid (fun (W : World) (hW : Blk W 28 w.heap.size (frL f)) => show W.cell? ⟨w.heap.size, 2, none⟩ = some (.int .i64 f.hop) ∧ W.cell? ⟨w.heap.size, 5, none⟩ = some (.int .i64 f.proto) from ⟨hW.cell rfl, hW.cell rfl⟩)
  have HSRC := Lib.hid (fun (W : World) (hW : Blk W 28 w.heap.size (frL f)) => hW.src)
  have HDST := Lib.hid (fun (W : World) (hW : Blk W 28 w.heap.size (frL f)) => hW.dst hok)
  have hll := laid_len l f.proto.toNat
  have hsl := sumN_le l
  have hlt := laid_lt l hP
  rw [hI.size] at hsl
  have hT : 40 + (sumN l + load.length) ≤ 65575 := by rw [hJ.len]; omega
  have hWP := wholeH_put f l load
  have hPU := fun W => rput_any (wholeH_ok hok (40 + (sumN l + load.length))) (wholeH_right hr (by omega) hT) W
  have hpl := putF_len (wholeH_ok hok (40 + (sumN l + load.length)))
  have hBU := built_at 40 ((40 + (sumN l + load.length) : Nat) : Int) f.hop f.proto f.s f.d hok.s hok.d
  rw [show (⟨40, ((40 + (sumN l + load.length) : Nat) : Int), f.hop, false, 0, f.proto, f.s, f.d⟩ : Fr) = wholeH f (40 + (sumN l + load.length)) from rfl] at hBU
  obtain ⟨w1, hw1⟩ : ∃ w1, w.alloc (.cells (frL f).toArray 28) = w1 := ⟨_, rfl⟩
  rw [hw1] at hb1 hB1 hz1
  have HL := Lib.hid (fun W (hW : Below w1.heap.size w1 W) => laid_any A len cap l f.proto.toNat hP (by omega) W (((hI.below hB1).below (hW.mono (by omega))).more (Nat.le_trans hB1.size hW.size)))
  rw [hpe] at HL
  have HJ := Lib.hid (hJ.below hB1)
  have HJL := Lib.hid hJ.len
  have HQ1 := Lib.hid hb1
  have HB1 := Lib.hid hB1
  have HW1 := Lib.hid hw1
  have HZ1 := Lib.hid hz1
  have HOK := Lib.hid hok
  unfold frC
  obtain ⟨C, hC⟩ : ∃ C, (frL f).toArray = C := ⟨_, rfl⟩
  rw [hC] at HW1 k5 ⊢
  generalize wholeH f (40 + (sumN l + load.length)) = h2 at *
  generalize hlf : laidF l f.proto.toNat = lf at *
  obtain ⟨fi, out⟩ := lf
  simp only at hll hlt hWP HL
  generalize wholeB f l load = xb at *
  generalize putF h2 = pb at *
  rw [hJ.len] at hBU hT
  generalize sumN l = m at *
  rw [show ((40 + (m + len2) : Nat) : Int) = 40 + (m : Int) + (len2 : Int) by omega] at hBU
  have hwA : IntKind.i64.wrap (40 + (m : Int)) = 40 + (m : Int) := by rw [IntKind.wrap_i64]; omega
  have hwB : IntKind.i64.wrap (40 + (m : Int) + (len2 : Int)) = 40 + (m : Int) + (len2 : Int) := by rw [IntKind.wrap_i64]; omega
  have uf : IntKind.u8.wrap (fi : Int) = (fi : Int) := by rw [IntKind.wrap_u8]; omega
  have HUf := Lib.hid (show (fi : Int) = ((UInt8.ofNat fi).toNat : Int) by rw [u8nat hlt])
  have HLL := Lib.hid hll
  have HWP := Lib.hid hWP
  have HPU := Lib.hid hPU
  have HPL := Lib.hid hpl
  have HBU := Lib.hid hBU
  have HT := Lib.hid hT
  clear hC hb1 hB1 hz1 hw1 hI hJ hok hr g hP hpe hll hsl hlt hWP hPU hpl hBU hT hlf
  go_enter Try.func17, Try.ntmps17
  go_wp2_with fail
  rw [HW1.out]
  refine (HL.out _ (Below.refl _ _)).mono ?_
  rintro e w2 ⟨v2, rfl, ho2, hb2⟩
  obtain ⟨A7, c7, rfl, hc7, hm7, hr7⟩ := ho2.form HLL.out
  have HR2 := Lib.hid hr7
  have HQ2 := Lib.hid (HQ1.out.below HQ1.out.lt hb2)
  have HB2 := Lib.hid (HB1.out.trans (hb2.mono HB1.out.size))
  have HJ2 := Lib.hid (HJ.out.below (hb2.mono HB1.out.size))
  obtain ⟨d2, d5⟩ := HFIELD.out w2 HQ2.out
  clear ho2 hb2 hr7 k5
  go_wp2_with (first
    | ((with_reducible show wpList _ _ _ _ _ _); refine wpList_loadAw (.tmp 27) rfl (by rfl) w.heap.size 6 (by rfl) f.s HOK.out.s (HSRC.out w2 HQ2.out) ?_)
    | ((with_reducible show wpList _ _ _ _ _ _); refine wpList_loadAw (.tmp 29) rfl (by rfl) w.heap.size 23 (by rfl) f.d HOK.out.d (HDST.out w2 HQ2.out) ?_)
    | ((with_reducible show wpList _ _ _ _ _ _); refine wpList_buildw 28 _ rfl (by rfl) _ (by kernel_rfl) _ HBU.out ?_))
  refine (HPU.out w2).mono ?_
  rintro e w3 ⟨v3, rfl, ho3, hb3⟩
  obtain ⟨g3, c3, rfl, _, _, hgb, hgl, _⟩ := ho3.formG HPL.out (by omega)
  have HO3 := Lib.hid ho3
  have HB3 := Lib.hid (HB2.out.trans (hb3.mono HB2.out.size))
  have HG3 := Lib.hid hgb
  have HR3 := Lib.hid (HR2.out.below hb3)
  have HJ3 := Lib.hid (HJ2.out.below (hb3.mono HB2.out.size))
  have HZ3 := Lib.hid (Nat.le_trans HB2.out.size hb3.size)
  have HX3 := Lib.hid hb3.size
  clear ho3 hb3 hgl hgb d2 d5
  go_wp2_with (first
    | ((with_reducible show wpList _ _ _ _ _ _); refine wpList_storeO rfl (.tmp 36) (.tmp 35) rfl g3 6 (by rfl) (UInt8.ofNat fi) (fi : Int) HUf.out (by rfl) pb 40 c3 w2.heap.size HPL.out HO3.out (by omega) ?_; intro w4 ho4 hb4; have HO4 := Lib.hid ho4; have HB4 := Lib.hid (HB3.out.trans (hb4.mono (Nat.le_trans HB2.out.size HG3.out))); have HR4 := Lib.hid (HR3.out.below (hb4.mono HG3.out)); have HJ4 := Lib.hid (HJ3.out.below (hb4.mono (Nat.le_trans HB2.out.size HG3.out))); have HZ4 := Lib.hid (Nat.le_trans HZ3.out hb4.size); have HX4 := Lib.hid (Nat.le_trans HX3.out hb4.size); clear ho4 hb4)
    | (at_builtin; refine wpList_append8 (o := ⟨some 39, _, _, _, _, _⟩) rfl _ _ rfl w2.heap.size _ (pb.set 6 (UInt8.ofNat fi)) (by rfl) HO4.out _ _ _ _ out (by rfl) HR4.out (by rw [List.length_set, HPL.out]; have := HT.out; omega) HX4.out ?_; intro v5 w5 ho5 hg5 _; have HO5 := Lib.hid ho5; have e5 := (Below.refl w.heap.size w4).grown hg5 HZ4.out (fun g hg => Nat.le_trans HB2.out.size (HO4.out.lt g hg)); have HB5 := Lib.hid (HB4.out.trans e5); have HJ5 := Lib.hid (HJ4.out.below e5); have HX5 := Lib.hid (Nat.le_trans HX4.out hg5.size); clear ho5 hg5 e5)
    | (at_builtin; refine wpList_append8 (o := ⟨some 41, _, _, _, _, _⟩) rfl _ _ rfl w2.heap.size _ (pb.set 6 (UInt8.ofNat fi) ++ out) (by rfl) HO5.out _ _ _ _ load (by rfl) HJ5.out (by rw [List.length_append, List.length_set, HPL.out, HLL.out]; have := HT.out; omega) HX5.out ?_; intro v6 w6 ho6 hg6 _; have HO6 := Lib.hid ho6; have HB6 := Lib.hid (HB5.out.grown hg6 (Nat.le_trans HB2.out.size HX5.out) (fun g hg => Nat.le_trans HB2.out.size (HO5.out.lt g hg))); clear ho6 hg6))
  go_ret
  exact ⟨_, rfl, by rw [← HWP.out]; exact HO6.out.base_le HB2.out.size, HB6.out⟩
end Go.Proofs.Ythicbdjambmnpaa
