/-
  nat.placesOf.
-/
import Derived.Test.YtkmcopenflakkaaNSmall
namespace Go.Proofs.Ytkmcopenflakkaa
set_option maxRecDepth 100000
open Go.RowKit Go.Lib

/-- The cells of places. -/
def plcL (sa sp da dp sz hd ck : Int) (u : Bool) : List Value := [.int .i64 sa, .int .i64 sp, .int .i64 da, .int .i64 dp, .int .i64 sz, .int .i64 hd, .int .i64 ck, .bool u]
def plcC (sa sp da dp sz hd ck : Int) (u : Bool) : Value := .agg (plcL sa sp da dp sz hd ck u).toArray
def endC (a p : Int) : Value := .agg #[.int .i64 a, .int .i64 p]
theorem zeroPl : (#[.int .i64 0, .int .i64 0, .int .i64 0, .int .i64 0, .int .i64 0, .int .i64 0, .int .i64 0, .bool false] : Array Value) = (plcL 0 0 0 0 0 0 0 false).toArray := rfl
theorem plcL_one (sa sp da dp sz hd ck : Int) (u : Bool) : ∀ v ∈ plcL sa sp da dp sz hd ck u, v.oneCell' = true := by
  intro v hv
  simp only [plcL, List.mem_cons, List.not_mem_nil, or_false] at hv
  rcases hv with rfl | rfl | rfl | rfl | rfl | rfl | rfl | rfl <;> rfl
theorem sizePl (sa sp da dp sz hd ck : Int) (u : Bool) : (Try.prog.info? 57).map (·.size) = some (plcL sa sp da dp sz hd ck u).length := by kernel_rfl
theorem built_end (a p : Int) : Try.prog.built 55 [(0, .int .i64 a), (1, .int .i64 p)] = some #[.int .i64 a, .int .i64 p] := by kernel_rfl
theorem built_pl (sa sp da dp sz hd ck : Int) (u : Bool) : Try.prog.built 57 [(0, endC sa sp), (1, endC da dp), (2, .int .i64 sz), (3, .int .i64 hd), (4, .int .i64 ck), (5, .bool u)] = some (plcL sa sp da dp sz hd ck u).toArray := by kernel_rfl
theorem results_pl {fn : Func} {p : Tmp} (hr : fn.results = #[.cell p 57]) (tmps : Array Value) (w : World) (g : Nat) (hp : tmps.getD p undef = .pointer (some ⟨g, 0, none⟩)) {sa sp da dp sz hd ck : Int} {u : Bool} (hb : Blk w 57 g (plcL sa sp da dp sz hd ck u)) :
    (results fn tmps).run Try.prog w = .ok (plcC sa sp da dp sz hd ck u) w := by
  have hl := run_loadVar_mid (P := Try.prog) w g 0 57 (plcL sa sp da dp sz hd ck u) _ (Blk_10.range hb) Try.underlying57 rfl (sizePl sa sp da dp sz hd ck u)
  rw [results_cell0 hr, hp]
  simp [Result.andThen, asAddr, hl, plcC]
/-- A packet in its box, and a box of noughts. -/
theorem box_pk (w : World) (k : Pk) (zs : List Value) (T : TypeId) : ∃ Y : World, (w.alloc (.cells (pkL k).toArray 37)).alloc (.cells zs.toArray T) = Y ∧ Blk Y 37 w.heap.size (pkL k) ∧ Blk Y T (w.heap.size + 1) zs ∧ Below w.heap.size w Y := by
  refine ⟨_, rfl, (Blk_10.new w 37 (pkL k)).alloc _, ?_, ((Below.refl w.heap.size w).alloc (Nat.le_refl _) _).alloc (by simp) _⟩
  have := Blk_10.new (w.alloc (.cells (pkL k).toArray 37)) T zs
  rwa [World.size_alloc] at this
theorem pkL_pr {k : Pk} (h : k.t.Ok) : (pkL k)[35]? = some (.int .i64 k.t.pr) := by
  have e := tuL_num h 0
  show (tuL k.t ++ pkE k)[34]? = _
  rw [List.getElem?_append_left (by rw [tuL_len h]; omega)]
  exact e
theorem pkL_d6 {k : Pk} (h : k.t.Ok) : (pkL k)[18]? = some (.bool k.t.d.six) := by
  show (tuL k.t ++ pkE k)[17]? = _
  rw [List.getElem?_append_left (by rw [tuL_len h]; omega)]
  unfold tuL
  rw [List.getElem?_append_right (by rw [adL_len h.s]; omega), adL_len h.s]
  rfl

set_option maxHeartbeats 8000000 in
theorem nplaces_4 {k : Pk} (ho : k.t.Ok) {p s : Nat} (hp : p ≤ 1000000) (hs : s ≤ 1000000) (u : Bool) (h1 : k.net = (p : Int)) (h2 : k.sg = (s : Int)) (h3 : k.t.pr = (prN u : Int)) (h4 : k.t.d.six = false) (w : World) :
    Calls Try.prog 23 #[pkC k] w fun e w' => e = .returned (plcC ((p : Int) + 12) (s : Int) ((p : Int) + 16) ((s : Int) + 2) 4 ((p : Int) + 10) ((s + plc u : Nat) : Int) u) ∧ Below w.heap.size w w' := by
  obtain ⟨Y, hY, hq, hr, hbel⟩ := box_pk w k (plcL 0 0 0 0 0 0 0 false) 57
  rw [← zeroPl] at hY
  have HKC := Lib.hid (fun W (hW : Below Y.heap.size Y W) => show W.cell? ⟨w.heap.size, 39, none⟩ = some (.int .i64 (p : Int)) ∧ W.cell? ⟨w.heap.size, 40, none⟩ = some (.int .i64 (s : Int)) ∧ W.cell? ⟨w.heap.size, 35, none⟩ = some (.int .i64 (prN u : Int)) by
    have hb := hq.below hq.lt hW
    obtain ⟨_, _, c3, c4, _⟩ := pk_cells hb ho
    exact ⟨h1 ▸ c3, h2 ▸ c4, h3 ▸ Blk_10.cell hb (pkL_pr ho)⟩)
  have HD6 := Lib.hid (fun W (hW : Below Y.heap.size Y W) => show W.cell? ⟨w.heap.size, 18, none⟩ = some (.bool false) from h4 ▸ Blk_10.cell (hq.below hq.lt hW) (pkL_d6 ho))
  have HPL := Lib.hid (fun W => show Calls Try.prog 43 #[.int .i64 (prN u : Int)] W fun e w' => e = .returned (.int .i64 (plc u : Nat)) ∧ W = w' from plcI_pr u ▸ place_any (prN u : Nat) W)
  have hpl : plc u ≤ 16 := by cases u <;> decide
  have hbu : (((prN u : Nat) : Int) == 17) = u := by cases u <;> rfl
  have wa : IntKind.i64.wrap ((p : Int) + 12) = (p : Int) + 12 := by rw [IntKind.wrap_i64]; omega
  have wb : IntKind.i64.wrap (s : Int) = (s : Int) := by rw [IntKind.wrap_i64]; omega
  have wc : IntKind.i64.wrap ((p : Int) + 16) = (p : Int) + 16 := by rw [IntKind.wrap_i64]; omega
  have wd : IntKind.i64.wrap ((s : Int) + 2) = (s : Int) + 2 := by rw [IntKind.wrap_i64]; omega
  have we : IntKind.i64.wrap ((p : Int) + 10) = (p : Int) + 10 := by rw [IntKind.wrap_i64]; omega
  have wf : IntKind.i64.wrap ((s : Int) + (plc u : Nat)) = ((s + plc u : Nat) : Int) := by rw [IntKind.wrap_i64]; omega
  have wg : IntKind.i64.wrap ((p : Int) + 8) = (p : Int) + 8 := by rw [IntKind.wrap_i64]; omega
  have wh : IntKind.i64.wrap ((p : Int) + 24) = (p : Int) + 24 := by rw [IntKind.wrap_i64]; omega
  unfold pkC
  obtain ⟨C0, hC0⟩ : ∃ C, (pkL k).toArray = C := ⟨_, rfl⟩
  rw [hC0] at hY ⊢
  have HY := Lib.hid hY
  have HR := Lib.hid hr
  have HB := Lib.hid hbel
  obtain ⟨ck, hck⟩ : ∃ c, s + plc u = c := ⟨_, rfl⟩
  rw [hck] at wf ⊢
  obtain ⟨pl, hpl2⟩ : ∃ c, plc u = c := ⟨_, rfl⟩
  rw [hpl2] at wf HPL
  obtain ⟨N, hN⟩ : ∃ N, prN u = N := ⟨_, rfl⟩
  rw [hN] at HPL HKC hbu
  clear hY hq hr hbel hC0 h1 h2 h3 h4 ho hck hpl hpl2 hN hp hs
  go_enter Try.func23, Try.ntmps23
  go_wp2_with fail
  rw [HY.out]
  apply cut_world (H := fun W G => Y.heap.size ≤ G ∧ Blk W 57 G (plcL ((p : Int) + 12) (s : Int) ((p : Int) + 16) ((s : Int) + 2) 4 ((p : Int) + 10) (ck : Int) u) ∧ Below Y.heap.size Y W)
  case h1 =>
    intro hc
    refine wp_region_held_drew (S := fun W => Below Y.heap.size Y W) (by kernel_rfl) ((Below.refl _ _).drew) (fun hHeld => ?_)
    obtain ⟨X, hX⟩ : ∃ X, Y.drew = X := ⟨_, rfl⟩
    rw [hX] at hHeld ⊢
    clear hX
    refine tk 0 4 (.pointer (some ⟨w.heap.size, 39, none⟩)) rfl hHeld ?_
    simp only [Act.put, sA, sZ, sS]
    refine tkY 1 5 (.int .i64 (p : Int)) rfl (Or.inl ⟨by rfl, fun W hW => by have hc := (HKC.out W hW).1; go_simp⟩) hHeld ?_
    simp only [Act.put, sA, sZ, sS]
    refine tk 2 6 (.int .i64 ((p : Int) + 12)) rfl hHeld ?_
    simp only [Act.put, sA, sZ, sS]
    refine tk 3 7 (.pointer (some ⟨w.heap.size, 40, none⟩)) rfl hHeld ?_
    simp only [Act.put, sA, sZ, sS]
    refine tkY 4 8 (.int .i64 (s : Int)) rfl (Or.inl ⟨by rfl, fun W hW => by have hc := (HKC.out W hW).2.1; go_simp⟩) hHeld ?_
    simp only [Act.put, sA, sZ, sS]
    refine tk 5 9 (.int .i64 (s : Int)) rfl hHeld ?_
    simp only [Act.put, sA, sZ, sS]
    refine tkY 6 10 (endC ((p : Int) + 12) (s : Int)) rfl (yields_build (by rfl) 55 _ rfl [(0, .int .i64 ((p : Int) + 12)), (1, .int .i64 (s : Int))] (by kernel_rfl) _ (built_end _ _)) hHeld ?_
    simp only [Act.put, sA, sZ, sS]
    refine tk 7 11 (.pointer (some ⟨w.heap.size, 39, none⟩)) rfl hHeld ?_
    simp only [Act.put, sA, sZ, sS]
    refine tkY 8 12 (.int .i64 (p : Int)) rfl (Or.inl ⟨by rfl, fun W hW => by have hc := (HKC.out W hW).1; go_simp⟩) hHeld ?_
    simp only [Act.put, sA, sZ, sS]
    refine tk 9 13 (.int .i64 ((p : Int) + 16)) rfl hHeld ?_
    simp only [Act.put, sA, sZ, sS]
    refine tk 10 14 (.pointer (some ⟨w.heap.size, 40, none⟩)) rfl hHeld ?_
    simp only [Act.put, sA, sZ, sS]
    refine tkY 11 15 (.int .i64 (s : Int)) rfl (Or.inl ⟨by rfl, fun W hW => by have hc := (HKC.out W hW).2.1; go_simp⟩) hHeld ?_
    simp only [Act.put, sA, sZ, sS]
    refine tk 12 16 (.int .i64 ((s : Int) + 2)) rfl hHeld ?_
    simp only [Act.put, sA, sZ, sS]
    refine tkY 13 17 (endC ((p : Int) + 16) ((s : Int) + 2)) rfl (yields_build (by rfl) 55 _ rfl [(0, .int .i64 ((p : Int) + 16)), (1, .int .i64 ((s : Int) + 2))] (by kernel_rfl) _ (built_end _ _)) hHeld ?_
    simp only [Act.put, sA, sZ, sS]
    refine tk 14 18 (.pointer (some ⟨w.heap.size, 39, none⟩)) rfl hHeld ?_
    simp only [Act.put, sA, sZ, sS]
    refine tkY 15 19 (.int .i64 (p : Int)) rfl (Or.inl ⟨by rfl, fun W hW => by have hc := (HKC.out W hW).1; go_simp⟩) hHeld ?_
    simp only [Act.put, sA, sZ, sS]
    refine tk 16 20 (.int .i64 ((p : Int) + 10)) rfl hHeld ?_
    simp only [Act.put, sA, sZ, sS]
    refine tk 17 21 (.pointer (some ⟨w.heap.size, 40, none⟩)) rfl hHeld ?_
    simp only [Act.put, sA, sZ, sS]
    refine tkY 18 22 (.int .i64 (s : Int)) rfl (Or.inl ⟨by rfl, fun W hW => by have hc := (HKC.out W hW).2.1; go_simp⟩) hHeld ?_
    simp only [Act.put, sA, sZ, sS]
    refine tk 19 23 (.pointer (some ⟨w.heap.size, 1, none⟩)) rfl hHeld ?_
    simp only [Act.put, sA, sZ, sS]
    refine tk 20 24 (.pointer (some ⟨w.heap.size, 35, none⟩)) rfl hHeld ?_
    simp only [Act.put, sA, sZ, sS]
    refine tkY 21 25 (.int .i64 ((N : Nat) : Int)) rfl (Or.inl ⟨by rfl, fun W hW => by have hc := (HKC.out W hW).2.2; go_simp⟩) hHeld ?_
    simp only [Act.put, sA, sZ, sS]
    refine tk 24 28 (.pointer (some ⟨w.heap.size, 1, none⟩)) rfl hHeld ?_
    simp only [Act.put, sA, sZ, sS]
    refine tk 25 29 (.pointer (some ⟨w.heap.size, 35, none⟩)) rfl hHeld ?_
    simp only [Act.put, sA, sZ, sS]
    refine tkY 26 30 (.int .i64 ((N : Nat) : Int)) rfl (Or.inl ⟨by rfl, fun W hW => by have hc := (HKC.out W hW).2.2; go_simp⟩) hHeld ?_
    simp only [Act.put, sA, sZ, sS]
    refine tk 27 31 (.bool u) rfl hHeld ?_
    simp only [Act.put, sA, sZ, sS]
    refine wpAnyH_ready (rs := [22, 29]) (by kernel_rfl) (by simp) (AllReadyH.cons (o := ⟨some 26, _, _, _, _, _⟩) rfl (fun K hK => ?_) (AllReadyH.cons (o := ⟨some 3, _, _, _, _, _⟩) rfl (fun K hK => ?_) AllReadyH.nil))
    · go_simp
      refine (HPL.out _).mono ?_
      rintro e w7 ⟨rfl, rfl⟩
      refine hK.out _ _ (hHeld) (fun hHeld => ?_)
      clear hK K 
      refine tk 23 27 (.int .i64 ((ck : Nat) : Int)) rfl hHeld ?_
      simp only [Act.put, sA, sZ, sS]
      refine tkY 28 32 (.agg (plcL ((p : Int) + 12) (s : Int) ((p : Int) + 16) ((s : Int) + 2) 4 ((p : Int) + 10) (ck : Int) u).toArray) rfl (yields_build (by rfl) 57 _ rfl [(0, endC ((p : Int) + 12) (s : Int)), (1, endC ((p : Int) + 16) ((s : Int) + 2)), (2, .int .i64 4), (3, .int .i64 ((p : Int) + 10)), (4, .int .i64 (ck : Int)), (5, .bool u)] (by kernel_rfl) _ (built_pl _ _ _ _ _ _ _ _)) hHeld ?_
      simp only [Act.put, sA, sZ, sS]
      refine wpAnyH_ready (rs := [29]) (by kernel_rfl) (by simp) (AllReadyH.cons (o := ⟨some 3, _, _, _, _, _⟩) rfl (fun K hK => ?_) AllReadyH.nil)
      go_simp
      rw [zeroPl]
      have hg8 := Blk_10.new X 57 (plcL 0 0 0 0 0 0 0 false)
      have HG8 := Lib.hid hg8
      have HGE := Lib.hid hHeld.size
      have hh8 := hHeld.alloc hHeld.size (.cells (plcL 0 0 0 0 0 0 0 false).toArray 57)
      have HH8 := Lib.hid hh8
      clear hg8 hh8
      generalize X.heap.size = G at HG8 HGE ⊢
      generalize X.alloc (.cells (plcL 0 0 0 0 0 0 0 false).toArray 57) = w8 at HG8 HH8 ⊢
      refine hK.out _ _ (HH8.out) (fun hHeld => ?_)
      clear hK K 
      refine wpAnyH_ready (rs := [30]) (by kernel_rfl) (by simp) (AllReadyH.cons (o := ⟨none, _, _, _, _, _⟩) rfl (fun K hK => ?_) AllReadyH.nil)
      refine step_storeR_10 rfl 57 _ _ rfl G (by rfl) (plcL ((p : Int) + 12) (s : Int) ((p : Int) + 16) ((s : Int) + 2) 4 ((p : Int) + 10) (ck : Int) u) (by rfl) _ HG8.out rfl (sizePl _ _ _ _ _ _ _ _) (plcL_one _ _ _ _ _ _ _ _) ?_
      have hr9 := Blk_10.setRow_ HG8.out (plcL ((p : Int) + 12) (s : Int) ((p : Int) + 16) ((s : Int) + 2) 4 ((p : Int) + 10) (ck : Int) u)
      have hh9 := below_setRow hHeld (HGE.out) (plcL ((p : Int) + 12) (s : Int) ((p : Int) + 16) ((s : Int) + 2) 4 ((p : Int) + 10) (ck : Int) u).toArray
      have HR9 := Lib.hid hr9
      have HH9 := Lib.hid hh9
      clear hr9 hh9
      generalize World.setRow _ G (plcL ((p : Int) + 12) (s : Int) ((p : Int) + 16) ((s : Int) + 2) 4 ((p : Int) + 10) (ck : Int) u).toArray = wy at HR9 HH9 ⊢
      refine hK.out _ _ (HH9.out) (fun hHeld => ?_)
      clear hK K 
      refine wpAnyH_done (by kernel_rfl) ?_ _
      exact hc wy G ⟨HGE.out, HR9.out, HH9.out⟩
    · go_simp
      rw [zeroPl]
      have hg8 := Blk_10.new X 57 (plcL 0 0 0 0 0 0 0 false)
      have HG8 := Lib.hid hg8
      have HGE := Lib.hid hHeld.size
      have hh8 := hHeld.alloc hHeld.size (.cells (plcL 0 0 0 0 0 0 0 false).toArray 57)
      have HH8 := Lib.hid hh8
      clear hg8 hh8
      generalize X.heap.size = G at HG8 HGE ⊢
      generalize X.alloc (.cells (plcL 0 0 0 0 0 0 0 false).toArray 57) = w8 at HG8 HH8 ⊢
      refine hK.out _ _ (HH8.out) (fun hHeld => ?_)
      clear hK K 
      refine wpAnyH_ready (rs := [22]) (by kernel_rfl) (by simp) (AllReadyH.cons (o := ⟨some 26, _, _, _, _, _⟩) rfl (fun K hK => ?_) AllReadyH.nil)
      go_simp
      refine (HPL.out _).mono ?_
      rintro e w7 ⟨rfl, rfl⟩
      refine hK.out _ _ (hHeld) (fun hHeld => ?_)
      clear hK K 
      refine tk 23 27 (.int .i64 ((ck : Nat) : Int)) rfl hHeld ?_
      simp only [Act.put, sA, sZ, sS]
      refine tkY 28 32 (.agg (plcL ((p : Int) + 12) (s : Int) ((p : Int) + 16) ((s : Int) + 2) 4 ((p : Int) + 10) (ck : Int) u).toArray) rfl (yields_build (by rfl) 57 _ rfl [(0, endC ((p : Int) + 12) (s : Int)), (1, endC ((p : Int) + 16) ((s : Int) + 2)), (2, .int .i64 4), (3, .int .i64 ((p : Int) + 10)), (4, .int .i64 (ck : Int)), (5, .bool u)] (by kernel_rfl) _ (built_pl _ _ _ _ _ _ _ _)) hHeld ?_
      simp only [Act.put, sA, sZ, sS]
      refine wpAnyH_ready (rs := [30]) (by kernel_rfl) (by simp) (AllReadyH.cons (o := ⟨none, _, _, _, _, _⟩) rfl (fun K hK => ?_) AllReadyH.nil)
      refine step_storeR_10 rfl 57 _ _ rfl G (by rfl) (plcL ((p : Int) + 12) (s : Int) ((p : Int) + 16) ((s : Int) + 2) 4 ((p : Int) + 10) (ck : Int) u) (by rfl) _ HG8.out rfl (sizePl _ _ _ _ _ _ _ _) (plcL_one _ _ _ _ _ _ _ _) ?_
      have hr9 := Blk_10.setRow_ HG8.out (plcL ((p : Int) + 12) (s : Int) ((p : Int) + 16) ((s : Int) + 2) 4 ((p : Int) + 10) (ck : Int) u)
      have hh9 := below_setRow hHeld (HGE.out) (plcL ((p : Int) + 12) (s : Int) ((p : Int) + 16) ((s : Int) + 2) 4 ((p : Int) + 10) (ck : Int) u).toArray
      have HR9 := Lib.hid hr9
      have HH9 := Lib.hid hh9
      clear hr9 hh9
      generalize World.setRow _ G (plcL ((p : Int) + 12) (s : Int) ((p : Int) + 16) ((s : Int) + 2) 4 ((p : Int) + 10) (ck : Int) u).toArray = wy at HR9 HH9 ⊢
      refine hK.out _ _ (HH9.out) (fun hHeld => ?_)
      clear hK K 
      refine wpAnyH_done (by kernel_rfl) ?_ _
      exact hc wy G ⟨HGE.out, HR9.out, HH9.out⟩
  case h2 =>
    intro wz G hcc
    obtain ⟨hge, hq, hbz⟩ := hcc
    have c18 := HD6.out wz hbz
    have HQ := Lib.hid hq
    have HGE := Lib.hid hge
    have HRz := Lib.hid (HR.out.below HR.out.lt hbz)
    have HBz := Lib.hid (HB.out.trans (hbz.mono HB.out.size))
    have HKz := Lib.hid (fun W (hW : Below wz.heap.size wz W) => HKC.out W (hbz.trans (hW.mono hbz.size)))
    have HGL := Lib.hid (Blk_10.lt hq)
    clear hge hq hbz HKC HD6
    go_wp2_with (first
      | ((with_reducible show wpList _ _ _ (⟨some 49, _, _, _, _, _⟩ :: _) _ _); refine wpList_loadM (op := ⟨some 49, _, _, _, _, _⟩) 57 _ rfl (by rfl) G 0 (by rfl) (plcL ((p : Int) + 12) (s : Int) ((p : Int) + 16) ((s : Int) + 2) 4 ((p : Int) + 10) (ck : Int) u) (Blk_10.range HQ.out) _ Try.underlying57 rfl (sizePl _ _ _ _ _ _ _ _) ?_)
      | ((with_reducible show wpList _ _ _ (⟨none, .store 57 (.tmp 2) _, _, _, _, _⟩ :: _) _ _); refine wpList_storeR_10 rfl 57 _ _ rfl (w.heap.size + 1) (by rfl) (plcL ((p : Int) + 12) (s : Int) ((p : Int) + 16) ((s : Int) + 2) 4 ((p : Int) + 10) (ck : Int) u) (by rfl) _ HRz.out rfl (sizePl _ _ _ _ _ _ _ _) (plcL_one _ _ _ _ _ _ _ _) ?_))
    refine bodyPost_ret (v := plcC ((p : Int) + 12) (s : Int) ((p : Int) + 16) ((s : Int) + 2) 4 ((p : Int) + 10) (ck : Int) u) (results_pl rfl _ _ (w.heap.size + 1) (by rfl) (Blk_10.setRow_ HRz.out _)) rfl ?_
    exact ⟨rfl, below_setRow HBz.out (Nat.le_succ _) _⟩

set_option maxHeartbeats 8000000 in
theorem nplaces_6 {k : Pk} (ho : k.t.Ok) {p s : Nat} (hp : p ≤ 1000000) (hs : s ≤ 1000000) (u : Bool) (h1 : k.net = (p : Int)) (h2 : k.sg = (s : Int)) (h3 : k.t.pr = (prN u : Int)) (h4 : k.t.d.six = true) (w : World) :
    Calls Try.prog 23 #[pkC k] w fun e w' => e = .returned (plcC ((p : Int) + 8) (s : Int) ((p : Int) + 24) ((s : Int) + 2) 16 0 ((s + plc u : Nat) : Int) u) ∧ Below w.heap.size w w' := by
  obtain ⟨Y, hY, hq, hr, hbel⟩ := box_pk w k (plcL 0 0 0 0 0 0 0 false) 57
  rw [← zeroPl] at hY
  have HKC := Lib.hid (fun W (hW : Below Y.heap.size Y W) => show W.cell? ⟨w.heap.size, 39, none⟩ = some (.int .i64 (p : Int)) ∧ W.cell? ⟨w.heap.size, 40, none⟩ = some (.int .i64 (s : Int)) ∧ W.cell? ⟨w.heap.size, 35, none⟩ = some (.int .i64 (prN u : Int)) by
    have hb := hq.below hq.lt hW
    obtain ⟨_, _, c3, c4, _⟩ := pk_cells hb ho
    exact ⟨h1 ▸ c3, h2 ▸ c4, h3 ▸ Blk_10.cell hb (pkL_pr ho)⟩)
  have HD6 := Lib.hid (fun W (hW : Below Y.heap.size Y W) => show W.cell? ⟨w.heap.size, 18, none⟩ = some (.bool true) from h4 ▸ Blk_10.cell (hq.below hq.lt hW) (pkL_d6 ho))
  have HPL := Lib.hid (fun W => show Calls Try.prog 43 #[.int .i64 (prN u : Int)] W fun e w' => e = .returned (.int .i64 (plc u : Nat)) ∧ W = w' from plcI_pr u ▸ place_any (prN u : Nat) W)
  have hpl : plc u ≤ 16 := by cases u <;> decide
  have hbu : (((prN u : Nat) : Int) == 17) = u := by cases u <;> rfl
  have wa : IntKind.i64.wrap ((p : Int) + 12) = (p : Int) + 12 := by rw [IntKind.wrap_i64]; omega
  have wb : IntKind.i64.wrap (s : Int) = (s : Int) := by rw [IntKind.wrap_i64]; omega
  have wc : IntKind.i64.wrap ((p : Int) + 16) = (p : Int) + 16 := by rw [IntKind.wrap_i64]; omega
  have wd : IntKind.i64.wrap ((s : Int) + 2) = (s : Int) + 2 := by rw [IntKind.wrap_i64]; omega
  have we : IntKind.i64.wrap ((p : Int) + 10) = (p : Int) + 10 := by rw [IntKind.wrap_i64]; omega
  have wf : IntKind.i64.wrap ((s : Int) + (plc u : Nat)) = ((s + plc u : Nat) : Int) := by rw [IntKind.wrap_i64]; omega
  have wg : IntKind.i64.wrap ((p : Int) + 8) = (p : Int) + 8 := by rw [IntKind.wrap_i64]; omega
  have wh : IntKind.i64.wrap ((p : Int) + 24) = (p : Int) + 24 := by rw [IntKind.wrap_i64]; omega
  unfold pkC
  obtain ⟨C0, hC0⟩ : ∃ C, (pkL k).toArray = C := ⟨_, rfl⟩
  rw [hC0] at hY ⊢
  have HY := Lib.hid hY
  have HR := Lib.hid hr
  have HB := Lib.hid hbel
  obtain ⟨ck, hck⟩ : ∃ c, s + plc u = c := ⟨_, rfl⟩
  rw [hck] at wf ⊢
  obtain ⟨pl, hpl2⟩ : ∃ c, plc u = c := ⟨_, rfl⟩
  rw [hpl2] at wf HPL
  obtain ⟨N, hN⟩ : ∃ N, prN u = N := ⟨_, rfl⟩
  rw [hN] at HPL HKC hbu
  clear hY hq hr hbel hC0 h1 h2 h3 h4 ho hck hpl hpl2 hN hp hs
  go_enter Try.func23, Try.ntmps23
  go_wp2_with fail
  rw [HY.out]
  apply cut_world (H := fun W G => Y.heap.size ≤ G ∧ Blk W 57 G (plcL ((p : Int) + 12) (s : Int) ((p : Int) + 16) ((s : Int) + 2) 4 ((p : Int) + 10) (ck : Int) u) ∧ Below Y.heap.size Y W)
  case h1 =>
    intro hc
    refine wp_region_held_drew (S := fun W => Below Y.heap.size Y W) (by kernel_rfl) ((Below.refl _ _).drew) (fun hHeld => ?_)
    obtain ⟨X, hX⟩ : ∃ X, Y.drew = X := ⟨_, rfl⟩
    rw [hX] at hHeld ⊢
    clear hX
    refine tk 0 4 (.pointer (some ⟨w.heap.size, 39, none⟩)) rfl hHeld ?_
    simp only [Act.put, sA, sZ, sS]
    refine tkY 1 5 (.int .i64 (p : Int)) rfl (Or.inl ⟨by rfl, fun W hW => by have hc := (HKC.out W hW).1; go_simp⟩) hHeld ?_
    simp only [Act.put, sA, sZ, sS]
    refine tk 2 6 (.int .i64 ((p : Int) + 12)) rfl hHeld ?_
    simp only [Act.put, sA, sZ, sS]
    refine tk 3 7 (.pointer (some ⟨w.heap.size, 40, none⟩)) rfl hHeld ?_
    simp only [Act.put, sA, sZ, sS]
    refine tkY 4 8 (.int .i64 (s : Int)) rfl (Or.inl ⟨by rfl, fun W hW => by have hc := (HKC.out W hW).2.1; go_simp⟩) hHeld ?_
    simp only [Act.put, sA, sZ, sS]
    refine tk 5 9 (.int .i64 (s : Int)) rfl hHeld ?_
    simp only [Act.put, sA, sZ, sS]
    refine tkY 6 10 (endC ((p : Int) + 12) (s : Int)) rfl (yields_build (by rfl) 55 _ rfl [(0, .int .i64 ((p : Int) + 12)), (1, .int .i64 (s : Int))] (by kernel_rfl) _ (built_end _ _)) hHeld ?_
    simp only [Act.put, sA, sZ, sS]
    refine tk 7 11 (.pointer (some ⟨w.heap.size, 39, none⟩)) rfl hHeld ?_
    simp only [Act.put, sA, sZ, sS]
    refine tkY 8 12 (.int .i64 (p : Int)) rfl (Or.inl ⟨by rfl, fun W hW => by have hc := (HKC.out W hW).1; go_simp⟩) hHeld ?_
    simp only [Act.put, sA, sZ, sS]
    refine tk 9 13 (.int .i64 ((p : Int) + 16)) rfl hHeld ?_
    simp only [Act.put, sA, sZ, sS]
    refine tk 10 14 (.pointer (some ⟨w.heap.size, 40, none⟩)) rfl hHeld ?_
    simp only [Act.put, sA, sZ, sS]
    refine tkY 11 15 (.int .i64 (s : Int)) rfl (Or.inl ⟨by rfl, fun W hW => by have hc := (HKC.out W hW).2.1; go_simp⟩) hHeld ?_
    simp only [Act.put, sA, sZ, sS]
    refine tk 12 16 (.int .i64 ((s : Int) + 2)) rfl hHeld ?_
    simp only [Act.put, sA, sZ, sS]
    refine tkY 13 17 (endC ((p : Int) + 16) ((s : Int) + 2)) rfl (yields_build (by rfl) 55 _ rfl [(0, .int .i64 ((p : Int) + 16)), (1, .int .i64 ((s : Int) + 2))] (by kernel_rfl) _ (built_end _ _)) hHeld ?_
    simp only [Act.put, sA, sZ, sS]
    refine tk 14 18 (.pointer (some ⟨w.heap.size, 39, none⟩)) rfl hHeld ?_
    simp only [Act.put, sA, sZ, sS]
    refine tkY 15 19 (.int .i64 (p : Int)) rfl (Or.inl ⟨by rfl, fun W hW => by have hc := (HKC.out W hW).1; go_simp⟩) hHeld ?_
    simp only [Act.put, sA, sZ, sS]
    refine tk 16 20 (.int .i64 ((p : Int) + 10)) rfl hHeld ?_
    simp only [Act.put, sA, sZ, sS]
    refine tk 17 21 (.pointer (some ⟨w.heap.size, 40, none⟩)) rfl hHeld ?_
    simp only [Act.put, sA, sZ, sS]
    refine tkY 18 22 (.int .i64 (s : Int)) rfl (Or.inl ⟨by rfl, fun W hW => by have hc := (HKC.out W hW).2.1; go_simp⟩) hHeld ?_
    simp only [Act.put, sA, sZ, sS]
    refine tk 19 23 (.pointer (some ⟨w.heap.size, 1, none⟩)) rfl hHeld ?_
    simp only [Act.put, sA, sZ, sS]
    refine tk 20 24 (.pointer (some ⟨w.heap.size, 35, none⟩)) rfl hHeld ?_
    simp only [Act.put, sA, sZ, sS]
    refine tkY 21 25 (.int .i64 ((N : Nat) : Int)) rfl (Or.inl ⟨by rfl, fun W hW => by have hc := (HKC.out W hW).2.2; go_simp⟩) hHeld ?_
    simp only [Act.put, sA, sZ, sS]
    refine tk 24 28 (.pointer (some ⟨w.heap.size, 1, none⟩)) rfl hHeld ?_
    simp only [Act.put, sA, sZ, sS]
    refine tk 25 29 (.pointer (some ⟨w.heap.size, 35, none⟩)) rfl hHeld ?_
    simp only [Act.put, sA, sZ, sS]
    refine tkY 26 30 (.int .i64 ((N : Nat) : Int)) rfl (Or.inl ⟨by rfl, fun W hW => by have hc := (HKC.out W hW).2.2; go_simp⟩) hHeld ?_
    simp only [Act.put, sA, sZ, sS]
    refine tk 27 31 (.bool u) rfl hHeld ?_
    simp only [Act.put, sA, sZ, sS]
    refine wpAnyH_ready (rs := [22, 29]) (by kernel_rfl) (by simp) (AllReadyH.cons (o := ⟨some 26, _, _, _, _, _⟩) rfl (fun K hK => ?_) (AllReadyH.cons (o := ⟨some 3, _, _, _, _, _⟩) rfl (fun K hK => ?_) AllReadyH.nil))
    · go_simp
      refine (HPL.out _).mono ?_
      rintro e w7 ⟨rfl, rfl⟩
      refine hK.out _ _ (hHeld) (fun hHeld => ?_)
      clear hK K 
      refine tk 23 27 (.int .i64 ((ck : Nat) : Int)) rfl hHeld ?_
      simp only [Act.put, sA, sZ, sS]
      refine tkY 28 32 (.agg (plcL ((p : Int) + 12) (s : Int) ((p : Int) + 16) ((s : Int) + 2) 4 ((p : Int) + 10) (ck : Int) u).toArray) rfl (yields_build (by rfl) 57 _ rfl [(0, endC ((p : Int) + 12) (s : Int)), (1, endC ((p : Int) + 16) ((s : Int) + 2)), (2, .int .i64 4), (3, .int .i64 ((p : Int) + 10)), (4, .int .i64 (ck : Int)), (5, .bool u)] (by kernel_rfl) _ (built_pl _ _ _ _ _ _ _ _)) hHeld ?_
      simp only [Act.put, sA, sZ, sS]
      refine wpAnyH_ready (rs := [29]) (by kernel_rfl) (by simp) (AllReadyH.cons (o := ⟨some 3, _, _, _, _, _⟩) rfl (fun K hK => ?_) AllReadyH.nil)
      go_simp
      rw [zeroPl]
      have hg8 := Blk_10.new X 57 (plcL 0 0 0 0 0 0 0 false)
      have HG8 := Lib.hid hg8
      have HGE := Lib.hid hHeld.size
      have hh8 := hHeld.alloc hHeld.size (.cells (plcL 0 0 0 0 0 0 0 false).toArray 57)
      have HH8 := Lib.hid hh8
      clear hg8 hh8
      generalize X.heap.size = G at HG8 HGE ⊢
      generalize X.alloc (.cells (plcL 0 0 0 0 0 0 0 false).toArray 57) = w8 at HG8 HH8 ⊢
      refine hK.out _ _ (HH8.out) (fun hHeld => ?_)
      clear hK K 
      refine wpAnyH_ready (rs := [30]) (by kernel_rfl) (by simp) (AllReadyH.cons (o := ⟨none, _, _, _, _, _⟩) rfl (fun K hK => ?_) AllReadyH.nil)
      refine step_storeR_10 rfl 57 _ _ rfl G (by rfl) (plcL ((p : Int) + 12) (s : Int) ((p : Int) + 16) ((s : Int) + 2) 4 ((p : Int) + 10) (ck : Int) u) (by rfl) _ HG8.out rfl (sizePl _ _ _ _ _ _ _ _) (plcL_one _ _ _ _ _ _ _ _) ?_
      have hr9 := Blk_10.setRow_ HG8.out (plcL ((p : Int) + 12) (s : Int) ((p : Int) + 16) ((s : Int) + 2) 4 ((p : Int) + 10) (ck : Int) u)
      have hh9 := below_setRow hHeld (HGE.out) (plcL ((p : Int) + 12) (s : Int) ((p : Int) + 16) ((s : Int) + 2) 4 ((p : Int) + 10) (ck : Int) u).toArray
      have HR9 := Lib.hid hr9
      have HH9 := Lib.hid hh9
      clear hr9 hh9
      generalize World.setRow _ G (plcL ((p : Int) + 12) (s : Int) ((p : Int) + 16) ((s : Int) + 2) 4 ((p : Int) + 10) (ck : Int) u).toArray = wy at HR9 HH9 ⊢
      refine hK.out _ _ (HH9.out) (fun hHeld => ?_)
      clear hK K 
      refine wpAnyH_done (by kernel_rfl) ?_ _
      exact hc wy G ⟨HGE.out, HR9.out, HH9.out⟩
    · go_simp
      rw [zeroPl]
      have hg8 := Blk_10.new X 57 (plcL 0 0 0 0 0 0 0 false)
      have HG8 := Lib.hid hg8
      have HGE := Lib.hid hHeld.size
      have hh8 := hHeld.alloc hHeld.size (.cells (plcL 0 0 0 0 0 0 0 false).toArray 57)
      have HH8 := Lib.hid hh8
      clear hg8 hh8
      generalize X.heap.size = G at HG8 HGE ⊢
      generalize X.alloc (.cells (plcL 0 0 0 0 0 0 0 false).toArray 57) = w8 at HG8 HH8 ⊢
      refine hK.out _ _ (HH8.out) (fun hHeld => ?_)
      clear hK K 
      refine wpAnyH_ready (rs := [22]) (by kernel_rfl) (by simp) (AllReadyH.cons (o := ⟨some 26, _, _, _, _, _⟩) rfl (fun K hK => ?_) AllReadyH.nil)
      go_simp
      refine (HPL.out _).mono ?_
      rintro e w7 ⟨rfl, rfl⟩
      refine hK.out _ _ (hHeld) (fun hHeld => ?_)
      clear hK K 
      refine tk 23 27 (.int .i64 ((ck : Nat) : Int)) rfl hHeld ?_
      simp only [Act.put, sA, sZ, sS]
      refine tkY 28 32 (.agg (plcL ((p : Int) + 12) (s : Int) ((p : Int) + 16) ((s : Int) + 2) 4 ((p : Int) + 10) (ck : Int) u).toArray) rfl (yields_build (by rfl) 57 _ rfl [(0, endC ((p : Int) + 12) (s : Int)), (1, endC ((p : Int) + 16) ((s : Int) + 2)), (2, .int .i64 4), (3, .int .i64 ((p : Int) + 10)), (4, .int .i64 (ck : Int)), (5, .bool u)] (by kernel_rfl) _ (built_pl _ _ _ _ _ _ _ _)) hHeld ?_
      simp only [Act.put, sA, sZ, sS]
      refine wpAnyH_ready (rs := [30]) (by kernel_rfl) (by simp) (AllReadyH.cons (o := ⟨none, _, _, _, _, _⟩) rfl (fun K hK => ?_) AllReadyH.nil)
      refine step_storeR_10 rfl 57 _ _ rfl G (by rfl) (plcL ((p : Int) + 12) (s : Int) ((p : Int) + 16) ((s : Int) + 2) 4 ((p : Int) + 10) (ck : Int) u) (by rfl) _ HG8.out rfl (sizePl _ _ _ _ _ _ _ _) (plcL_one _ _ _ _ _ _ _ _) ?_
      have hr9 := Blk_10.setRow_ HG8.out (plcL ((p : Int) + 12) (s : Int) ((p : Int) + 16) ((s : Int) + 2) 4 ((p : Int) + 10) (ck : Int) u)
      have hh9 := below_setRow hHeld (HGE.out) (plcL ((p : Int) + 12) (s : Int) ((p : Int) + 16) ((s : Int) + 2) 4 ((p : Int) + 10) (ck : Int) u).toArray
      have HR9 := Lib.hid hr9
      have HH9 := Lib.hid hh9
      clear hr9 hh9
      generalize World.setRow _ G (plcL ((p : Int) + 12) (s : Int) ((p : Int) + 16) ((s : Int) + 2) 4 ((p : Int) + 10) (ck : Int) u).toArray = wy at HR9 HH9 ⊢
      refine hK.out _ _ (HH9.out) (fun hHeld => ?_)
      clear hK K 
      refine wpAnyH_done (by kernel_rfl) ?_ _
      exact hc wy G ⟨HGE.out, HR9.out, HH9.out⟩
  case h2 =>
    intro wz G hcc
    obtain ⟨hge, hq, hbz⟩ := hcc
    have c18 := HD6.out wz hbz
    have HQ := Lib.hid hq
    have HGE := Lib.hid hge
    have HRz := Lib.hid (HR.out.below HR.out.lt hbz)
    have HBz := Lib.hid (HB.out.trans (hbz.mono HB.out.size))
    have HKz := Lib.hid (fun W (hW : Below wz.heap.size wz W) => HKC.out W (hbz.trans (hW.mono hbz.size)))
    have HGL := Lib.hid (Blk_10.lt hq)
    have HBY := Lib.hid hbz
    have HN := Lib.hid (fun W (hW : Below Y.heap.size wz W) => (HKC.out W (hbz.trans hW)).1)
    clear hge hq hbz HKC HD6 HKz
    go_wp2_with fail
    refine wp_region_held_drew (S := fun W => Below Y.heap.size wz W) (by kernel_rfl) ((Below.refl _ _).drew) (fun hHeld => ?_)
    obtain ⟨X, hX⟩ : ∃ X, wz.drew = X := ⟨_, rfl⟩
    have HGX : Hid (Blk X 57 G (plcL ((p : Int) + 12) (s : Int) ((p : Int) + 16) ((s : Int) + 2) 4 ((p : Int) + 10) (ck : Int) u)) := Lib.hid (hX ▸ HQ.out)
    rw [hX] at hHeld ⊢
    clear hX
    refine tk 0 37 (.pointer (some ⟨w.heap.size, 39, none⟩)) rfl hHeld ?_
    simp only [Act.put, sA, sZ, sS]
    refine tkY 1 38 (.int .i64 (p : Int)) rfl (Or.inl ⟨by rfl, fun W hW => by have hc := HN.out W hW; go_simp⟩) hHeld ?_
    simp only [Act.put, sA, sZ, sS]
    refine tk 2 39 (.int .i64 ((p : Int) + 8)) rfl hHeld ?_
    simp only [Act.put, sA, sZ, sS]
    refine tk 3 40 (.pointer (some ⟨w.heap.size, 39, none⟩)) rfl hHeld ?_
    simp only [Act.put, sA, sZ, sS]
    refine tkY 4 41 (.int .i64 (p : Int)) rfl (Or.inl ⟨by rfl, fun W hW => by have hc := HN.out W hW; go_simp⟩) hHeld ?_
    simp only [Act.put, sA, sZ, sS]
    refine tk 5 42 (.int .i64 ((p : Int) + 24)) rfl hHeld ?_
    simp only [Act.put, sA, sZ, sS]
    refine tk 6 43 (.pointer (some ⟨G, 0, none⟩)) rfl hHeld ?_
    simp only [Act.put, sA, sZ, sS]
    refine tk 7 44 (.pointer (some ⟨G, 0, none⟩)) rfl hHeld ?_
    simp only [Act.put, sA, sZ, sS]
    refine wpAnyH_ready (rs := [8]) (by kernel_rfl) (by simp) (AllReadyH.cons (o := ⟨none, _, _, _, _, _⟩) rfl (fun K hK => ?_) AllReadyH.nil)
    refine step_storeI rfl _ _ rfl G 0 (by rfl) ((p : Int) + 8) (by rfl) 57 (plcL ((p : Int) + 12) (s : Int) ((p : Int) + 16) ((s : Int) + 2) 4 ((p : Int) + 10) (ck : Int) u) HGX.out ((p : Int) + 12) (by rfl) ?_
    intro w8 hg8 hb8
    have HG8 : Hid (Blk w8 57 G (plcL ((p : Int) + 8) (s : Int) ((p : Int) + 16) ((s : Int) + 2) 4 ((p : Int) + 10) (ck : Int) u)) := Lib.hid hg8
    refine hK.out _ _ (hHeld.trans (hb8.mono HGE.out)) (fun hHeld => ?_)
    clear hK K hg8 hb8
    refine tk 9 45 (.pointer (some ⟨G, 2, none⟩)) rfl hHeld ?_
    simp only [Act.put, sA, sZ, sS]
    refine tk 10 46 (.pointer (some ⟨G, 2, none⟩)) rfl hHeld ?_
    simp only [Act.put, sA, sZ, sS]
    refine wpAnyH_ready (rs := [11]) (by kernel_rfl) (by simp) (AllReadyH.cons (o := ⟨none, _, _, _, _, _⟩) rfl (fun K hK => ?_) AllReadyH.nil)
    refine step_storeI rfl _ _ rfl G 2 (by rfl) ((p : Int) + 24) (by rfl) 57 (plcL ((p : Int) + 8) (s : Int) ((p : Int) + 16) ((s : Int) + 2) 4 ((p : Int) + 10) (ck : Int) u) HG8.out ((p : Int) + 16) (by rfl) ?_
    intro w11 hg11 hb11
    have HG11 : Hid (Blk w11 57 G (plcL ((p : Int) + 8) (s : Int) ((p : Int) + 24) ((s : Int) + 2) 4 ((p : Int) + 10) (ck : Int) u)) := Lib.hid hg11
    refine hK.out _ _ (hHeld.trans (hb11.mono HGE.out)) (fun hHeld => ?_)
    clear hK K hg11 hb11
    refine tk 12 47 (.pointer (some ⟨G, 4, none⟩)) rfl hHeld ?_
    simp only [Act.put, sA, sZ, sS]
    refine wpAnyH_ready (rs := [13]) (by kernel_rfl) (by simp) (AllReadyH.cons (o := ⟨none, _, _, _, _, _⟩) rfl (fun K hK => ?_) AllReadyH.nil)
    refine step_storeI rfl _ _ rfl G 4 (by rfl) 16 (by rfl) 57 (plcL ((p : Int) + 8) (s : Int) ((p : Int) + 24) ((s : Int) + 2) 4 ((p : Int) + 10) (ck : Int) u) HG11.out 4 (by rfl) ?_
    intro w13 hg13 hb13
    have HG13 : Hid (Blk w13 57 G (plcL ((p : Int) + 8) (s : Int) ((p : Int) + 24) ((s : Int) + 2) 16 ((p : Int) + 10) (ck : Int) u)) := Lib.hid hg13
    refine hK.out _ _ (hHeld.trans (hb13.mono HGE.out)) (fun hHeld => ?_)
    clear hK K hg13 hb13
    refine tk 14 48 (.pointer (some ⟨G, 5, none⟩)) rfl hHeld ?_
    simp only [Act.put, sA, sZ, sS]
    refine wpAnyH_ready (rs := [15]) (by kernel_rfl) (by simp) (AllReadyH.cons (o := ⟨none, _, _, _, _, _⟩) rfl (fun K hK => ?_) AllReadyH.nil)
    refine step_storeI rfl _ _ rfl G 5 (by rfl) 0 (by rfl) 57 (plcL ((p : Int) + 8) (s : Int) ((p : Int) + 24) ((s : Int) + 2) 16 ((p : Int) + 10) (ck : Int) u) HG13.out ((p : Int) + 10) (by rfl) ?_
    intro w15 hg15 hb15
    have HG15 : Hid (Blk w15 57 G (plcL ((p : Int) + 8) (s : Int) ((p : Int) + 24) ((s : Int) + 2) 16 0 (ck : Int) u)) := Lib.hid hg15
    refine hK.out _ _ (hHeld.trans (hb15.mono HGE.out)) (fun hHeld => ?_)
    clear hK K hg15 hb15
    refine wpAnyH_done (by kernel_rfl) ?_ _
    have HRy := Lib.hid (HR.out.below HR.out.lt (HBY.out.trans hHeld))
    have HBy := Lib.hid (HB.out.trans ((HBY.out.trans hHeld).mono HB.out.size))
    go_wp2_with (first
      | ((with_reducible show wpList _ _ _ (⟨some 49, _, _, _, _, _⟩ :: _) _ _); refine wpList_loadM (op := ⟨some 49, _, _, _, _, _⟩) 57 _ rfl (by rfl) G 0 (by rfl) (plcL ((p : Int) + 8) (s : Int) ((p : Int) + 24) ((s : Int) + 2) 16 0 (ck : Int) u) (Blk_10.range HG15.out) _ Try.underlying57 rfl (sizePl _ _ _ _ _ _ _ _) ?_)
      | ((with_reducible show wpList _ _ _ (⟨none, .store 57 (.tmp 2) _, _, _, _, _⟩ :: _) _ _); refine wpList_storeR_10 rfl 57 _ _ rfl (w.heap.size + 1) (by rfl) (plcL ((p : Int) + 8) (s : Int) ((p : Int) + 24) ((s : Int) + 2) 16 0 (ck : Int) u) (by rfl) _ HRy.out rfl (sizePl _ _ _ _ _ _ _ _) (plcL_one _ _ _ _ _ _ _ _) ?_))
    refine bodyPost_ret (v := plcC ((p : Int) + 8) (s : Int) ((p : Int) + 24) ((s : Int) + 2) 16 0 (ck : Int) u) (results_pl rfl _ _ (w.heap.size + 1) (by rfl) (Blk_10.setRow_ HRy.out _)) rfl ?_
    exact ⟨rfl, below_setRow HBy.out (Nat.le_succ _) _⟩
end Go.Proofs.Ytkmcopenflakkaa
