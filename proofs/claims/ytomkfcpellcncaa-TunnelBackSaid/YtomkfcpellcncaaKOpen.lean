/-
  Arguments of stage 11: headers of frames, tuples.
-/
import Derived.Test.YtomkfcpellcncaaKMake
import Derived.Deep.Slices
import Derived.Deep.Fields
import Derived.BigFrame
namespace Go.Proofs.Ytomkfcpellcncaa
set_option maxRecDepth 100000
open Go.RowKit Go.Lib Go.ChangeShapes Go.WideShapes Go.ChangeAt Go.Deep
section
variable {H : Type} {enc : TypeId × Value → H} {W : World}
theorem cells_6 : Try.prog.cellsOf 38 = 6 := by kernel_rfl
theorem cells_lk : Try.prog.cellsOf 41 = 15 := by kernel_rfl
/-- Six cells that read as an array of bytes. -/
theorem six_cells {fuel : Nat} {cs : List Value} {y : DataW H × List MemPlace} (h : DataW.trod enc Try.prog W 0 (fun _ => true) true fuel 38 cs = some y) :
    ∃ bs : List UInt8, bs.length = 6 ∧ ∀ i, i < 6 → cs[i]? = (bs.map v8)[i]? := by
  obtain ⟨xs, m, _, _, hxl, hxn, hx⟩ := DataW.trod_array Try.underlying38 h
  have each : ∀ i, ∃ x : UInt8, i < 6 → cs[i]? = some (v8 x) := by
    intro i
    by_cases hi : i < 6
    · have hxi := hx i hi
      obtain ⟨x, hxx⟩ : ∃ x, xs[i]? = some x := ⟨_, List.getElem?_eq_getElem (by rw [hxn]; exact hi)⟩
      rw [hxx] at hxi
      obtain ⟨z, hz, _, hw⟩ := DataW.trod_int Try.underlying5 hxi
      obtain ⟨r1, r2⟩ := range_u8 hw
      rw [cells_u8, Nat.mul_one] at hz
      have := one_of_take hz
      refine ⟨UInt8.ofNat z.toNat, fun _ => ?_⟩
      rw [v8_of _ (by omega), show ((z.toNat : Nat) : Int) = z by omega]
      exact this
    · exact ⟨0, fun h => absurd h hi⟩
  refine ⟨(List.range 6).map fun i => Classical.choose (each i), by simp, fun i hi => ?_⟩
  rw [Classical.choose_spec (each i) hi]
  simp [hi]
theorem open_six {v : Value} {d : DataW H} {ps : List MemPlace} (hd : DataW.Trod enc Try.prog W 0 (fun _ => true) true 38 v d ps) :
    ∃ bs : List UInt8, v = .agg (bs.map v8).toArray ∧ bs.length = 6 := by
  obtain ⟨fuel, hf⟩ := hd
  obtain ⟨bs, hb, hc⟩ := six_cells hf
  obtain ⟨_, _, _, _, hl, _, _⟩ := DataW.trod_array Try.underlying38 hf
  rw [cells_6] at hl
  have hv : ∃ cs, v = .agg cs := by
    cases v with
    | agg cs => exact ⟨cs, rfl⟩
    | _ => simp [Value.cells] at hl
  obtain ⟨cs, rfl⟩ := hv
  refine ⟨bs, ?_, hb⟩
  congr 1
  have : cs.toList = bs.map v8 := by
    apply List.ext_getElem?
    intro i
    by_cases hi : i < 6
    · exact hc i hi
    · rw [List.getElem?_eq_none (by simp [Value.cells] at hl ⊢; omega), List.getElem?_eq_none (by rw [List.length_map]; omega)]
  rw [← this]
/-- A cell that holds a slice of structs of one-cell fields: each field of each element. -/
theorem cell_rows {t e : TypeId} {fs : Array Field} {N : Nat} (ht : Try.prog.underlying t = some (.slice e)) (he : Try.prog.underlying e = some (.struct fs)) (hone : oneCellFields Try.prog fs = true) (hC : Try.prog.cellsOf e = N) (hN : fs.size = N) (h0 : 0 < N)
    {fuel : Nat} {u : Value} {x : DataW H × List MemPlace} (hf : DataW.trod enc Try.prog W 0 (fun _ => true) true fuel t [u] = some x) :
    ∃ A len cap, u = .slice A len cap ∧ len ≤ cap ∧ cap ≤ maxLen ∧ (0 < len → ∃ b off, A = some ⟨b, off, none⟩ ∧ b < W.heap.size ∧
      ∀ i j f, i < len → fs[j]? = some f → ∃ u n y, W.cell? ⟨b, off + i * N + j, none⟩ = some u ∧ DataW.trod enc Try.prog W 0 (fun _ => true) true n f.type [u] = some y) := by
  rcases open_slice ht hf with ⟨hcs, _⟩ | ⟨a, len, cap, m, n, D, Pl, hcs, _, hl, hm, hmm, _, hi⟩
  · cases hcs
    exact ⟨none, 0, 0, rfl, Nat.le_refl _, by simp [maxLen], fun h => absurd h (by omega)⟩
  · cases hcs
    have hmc : m = cap := by simpa using hmm
    refine ⟨_, len, cap, rfl, hl, hm, fun hlen => ?_⟩
    have each : ∀ i j f, i < len → fs[j]? = some f → ∃ u q y, W.cell? ((a.add (i * N)).add j) = some u ∧ DataW.trod enc Try.prog W 0 (fun _ => true) true q f.type [u] = some y := by
      intro i j f hil hj
      obtain ⟨cs', hc, ht'⟩ := hi i (by omega)
      rw [hC] at hc
      obtain ⟨ys, q, _, _, hlen', hyl, hfl⟩ := DataW.trod_struct he ht'
      obtain ⟨_, hcl, hat⟩ := World.cells?_some hc
      obtain ⟨ho, hk⟩ := hone_of hone j f hj
      have hjN : j < N := by rw [← hN]; exact (Array.getElem?_eq_some_iff.1 hj).1
      have hx := hfl j f hj
      rw [ho, hk, List.drop_eq_getElem_cons (by omega)] at hx
      refine ⟨cs'[j]'(by omega), q, ys[j]'(by omega), ?_, ?_⟩
      · rw [hat j hjN]; exact List.getElem?_eq_getElem _
      · exact hx.trans (List.getElem?_eq_getElem _)
    obtain ⟨b, off, spot⟩ := a
    obtain ⟨f0, hf0⟩ : ∃ f0, fs[0]? = some f0 := ⟨_, Array.getElem?_eq_getElem (by omega)⟩
    obtain ⟨u0, _, _, hu0, _⟩ := each 0 0 f0 hlen hf0
    have hspot : spot = none := by simpa [Addr.add] using World.cell?_spot hu0
    subst hspot
    rw [add_plain, add_plain] at hu0
    refine ⟨b, off, rfl, World.block_lt_of_cell? W _ hu0, fun i j f hil hj => ?_⟩
    obtain ⟨u, q, y, h1, h2⟩ := each i j f hil hj
    rw [add_plain, add_plain] at h1
    exact ⟨u, q, y, h1, h2⟩
/-- A cell of tags. -/
theorem cell_tags {fuel : Nat} {u : Value} {x : DataW H × List MemPlace} (h : DataW.trod enc Try.prog W 0 (fun _ => true) true fuel 39 [u] = some x) :
    ∃ A len cap ts, u = .slice A len cap ∧ len ≤ cap ∧ cap ≤ maxLen ∧ TagsAt W W.heap.size A len ts := by
  obtain ⟨A, len, cap, rfl, h1, h2, hR⟩ := cell_rows (N := 2) Try.underlying39 Try.underlying74 (by kernel_rfl) (by kernel_rfl) rfl (by omega) h
  have each : ∀ i, ∃ x : Tg, i < len → ∀ b off, A = some ⟨b, off, none⟩ → W.cell? ⟨b, off + i * 2, none⟩ = some (.int .i64 x.t) ∧ W.cell? ⟨b, off + i * 2 + 1, none⟩ = some (.int .i64 x.c) := by
    intro i
    by_cases hi : i < len
    · obtain ⟨b, off, rfl, _, hc⟩ := hR (by omega)
      obtain ⟨u0, n0, y0, c0, t0⟩ := hc i 0 _ hi rfl
      obtain ⟨u1, n1, y1, c1, t1⟩ := hc i 1 _ hi rfl
      obtain ⟨k, e0, _, _⟩ := DataW.trod_int Try.underlying3 t0
      obtain ⟨l, e1, _, _⟩ := DataW.trod_int Try.underlying3 t1
      cases e0
      cases e1
      exact ⟨⟨k, l⟩, fun _ b' off' e => by cases e; exact ⟨c0, c1⟩⟩
    · exact ⟨⟨0, 0⟩, fun h => absurd h hi⟩
  refine ⟨A, len, cap, (List.range len).map fun i => Classical.choose (each i), rfl, h1, h2, by simp, fun h0 => ?_⟩
  obtain ⟨b, off, rfl, hb, _⟩ := hR h0
  refine ⟨b, off, rfl, hb, fun j x hx => ?_⟩
  rw [List.getElem?_map] at hx
  by_cases hj : j < len
  · rw [List.getElem?_range hj] at hx
    cases hx
    exact Classical.choose_spec (each j) hj b off rfl
  · rw [List.getElem?_eq_none (by simpa using hj)] at hx; cases hx
theorem open_link {r : Reach} {b0 : Nat} {v : Value} {d : DataW H} {ps : List MemPlace} (hv : Value.okWide Try.prog W r b0 41 v) (hd : DataW.Trod enc Try.prog W 0 (fun _ => true) true 41 v d ps) :
    ∃ L A n cap, v = lkC L (.slice A n cap) ∧ L.Six ∧ n ≤ cap ∧ cap ≤ maxLen ∧ TagsAt W W.heap.size A n L.ts := by
  obtain ⟨cs, rfl, hcs⟩ := okWide_struct Try.underlying41 hv
  rw [cells_lk] at hcs
  obtain ⟨fuel, hf⟩ := hd
  obtain ⟨xs, n, _, _, _, hlen, hg⟩ := DataW.trod_struct Try.underlying41 hf
  have some_ : ∀ j, j < 5 → ∃ y, xs[j]? = some y := fun j hj => ⟨_, List.getElem?_eq_getElem (by rw [hlen]; exact hj)⟩
  obtain ⟨y0, e0⟩ := some_ 0 (by omega)
  obtain ⟨y1, e1⟩ := some_ 1 (by omega)
  obtain ⟨y2, e2⟩ := some_ 2 (by omega)
  obtain ⟨y3, e3⟩ := some_ 3 (by omega)
  obtain ⟨y4, e4⟩ := some_ 4 (by omega)
  obtain ⟨bs, hb, c0⟩ := six_cells ((hg 0 _ rfl).trans e0)
  obtain ⟨bt, ht, c1⟩ := six_cells ((hg 1 _ rfl).trans e1)
  have h2 := (hg 2 _ rfl).trans e2
  have hl2 : ((Value.agg cs).cells.toList.drop 12).take 1 = [cs[12]'(by omega)] := by
    rw [List.drop_eq_getElem_cons (by simp [Value.cells]; omega)]
    rfl
  obtain ⟨A, len, cap, ts, e12, h1, h3, hT⟩ := cell_tags (u := cs[12]'(by omega)) (by rw [← hl2]; exact h2)
  obtain ⟨ty, z13, _, _⟩ := DataW.trod_int Try.underlying3 ((hg 3 _ rfl).trans e3)
  obtain ⟨at_, z14, _, _⟩ := DataW.trod_int Try.underlying3 ((hg 4 _ rfl).trans e4)
  have k13 : cs.toList[13]? = some (.int .i64 ty) := one_of_take (cs := cs.toList) z13
  have k14 : cs.toList[14]? = some (.int .i64 at_) := one_of_take (cs := cs.toList) z14
  have k12 : cs.toList[12]? = some (.slice A len cap) := by rw [← e12]; simp
  refine ⟨⟨bs, bt, ts, ty, at_⟩, A, len, cap, ?_, ⟨hb, ht⟩, h1, h3, hT⟩
  unfold lkC
  congr 1
  have : cs.toList = lkL ⟨bs, bt, ts, ty, at_⟩ (.slice A len cap) := by
    apply List.ext_getElem?
    intro i
    have hbl : (bs.map v8).length = 6 := by rw [List.length_map, hb]
    have htl : (bt.map v8).length = 6 := by rw [List.length_map, ht]
    by_cases hi : i < 6
    · have := c0 i hi
      rw [show (lkL ⟨bs, bt, ts, ty, at_⟩ (.slice A len cap))[i]? = (bs.map v8)[i]? from List.getElem?_append_left (by show i < (bs.map v8).length; omega), ← this]
      rw [List.getElem?_take_of_lt (by exact hi), List.getElem?_drop]
      show _ = cs.toList[0 + i]?
      rw [Nat.zero_add]
    · by_cases hi2 : i < 12
      · have := c1 (i - 6) (by omega)
        have e : (lkL ⟨bs, bt, ts, ty, at_⟩ (.slice A len cap))[i]? = (bt.map v8)[i - 6]? := by
          unfold lkL
          rw [List.getElem?_append_right (by show (bs.map v8).length ≤ i; omega)]
          rw [show (Lk.mk bs bt ts ty at_).d = bs from rfl, hbl, List.getElem?_append_left (by show i - 6 < (bt.map v8).length; omega)]
        rw [e, ← this, List.getElem?_take_of_lt (by show i - 6 < 6; omega), List.getElem?_drop]
        show _ = cs.toList[6 + (i - 6)]?
        rw [show 6 + (i - 6) = i by omega]
      · have six : Lk.Six ⟨bs, bt, ts, ty, at_⟩ := ⟨hb, ht⟩
        by_cases h12 : i = 12
        · subst h12; rw [k12, lkL_tags six]
        · by_cases h13 : i = 13
          · subst h13; rw [k13, lkL_ty six]
          · by_cases h14 : i = 14
            · subst h14; rw [k14, lkL_at six]
            · rw [List.getElem?_eq_none (by simp; omega), List.getElem?_eq_none (by rw [lkL_len six]; omega)]
  rw [← this]
theorem cells_tu : Try.prog.cellsOf 51 = 37 := by kernel_rfl
/-- Sixteen cells that read as an array of bytes. -/
theorem sixteen_cells {fuel : Nat} {cs : List Value} {y : DataW H × List MemPlace} (h : DataW.trod enc Try.prog W 0 (fun _ => true) true fuel 23 cs = some y) :
    ∃ bs : List UInt8, bs.length = 16 ∧ ∀ i, i < 16 → cs[i]? = (bs.map v8)[i]? := by
  obtain ⟨xs, m, _, _, hxl, hxn, hx⟩ := DataW.trod_array Try.underlying23 h
  have each : ∀ i, ∃ x : UInt8, i < 16 → cs[i]? = some (v8 x) := by
    intro i
    by_cases hi : i < 16
    · have hxi := hx i hi
      obtain ⟨x, hxx⟩ : ∃ x, xs[i]? = some x := ⟨_, List.getElem?_eq_getElem (by rw [hxn]; exact hi)⟩
      rw [hxx] at hxi
      obtain ⟨z, hz, _, hw⟩ := DataW.trod_int Try.underlying5 hxi
      obtain ⟨r1, r2⟩ := range_u8 hw
      rw [cells_u8, Nat.mul_one] at hz
      have := one_of_take hz
      refine ⟨UInt8.ofNat z.toNat, fun _ => ?_⟩
      rw [v8_of _ (by omega), show ((z.toNat : Nat) : Int) = z by omega]
      exact this
    · exact ⟨0, fun h => absurd h hi⟩
  refine ⟨(List.range 16).map fun i => Classical.choose (each i), by simp, fun i hi => ?_⟩
  rw [Classical.choose_spec (each i) hi]
  simp [hi]
/-- Seventeen cells that read as an address. -/
theorem ad_cells {fuel : Nat} {cs : List Value} {y : DataW H × List MemPlace} (h : DataW.trod enc Try.prog W 0 (fun _ => true) true fuel 25 cs = some y) :
    ∃ a : Ad, a.b.length = 16 ∧ ∀ i, i < 17 → cs[i]? = (adL a)[i]? := by
  obtain ⟨xs, n, _, _, _, hlen, hg⟩ := DataW.trod_struct Try.underlying25 h
  obtain ⟨y0, e0⟩ : ∃ y, xs[0]? = some y := ⟨_, List.getElem?_eq_getElem (by rw [hlen]; decide)⟩
  obtain ⟨y1, e1⟩ : ∃ y, xs[1]? = some y := ⟨_, List.getElem?_eq_getElem (by rw [hlen]; decide)⟩
  obtain ⟨b, hb, _⟩ := DataW.trod_bool Try.underlying4 ((hg 0 _ rfl).trans e0)
  obtain ⟨bs, hl, hc⟩ := sixteen_cells ((hg 1 _ rfl).trans e1)
  refine ⟨⟨b, bs⟩, hl, fun i hi => ?_⟩
  match i, hi with
  | 0, _ => exact one_of_take hb
  | i + 1, hi =>
    have := hc i (by omega)
    rw [show (adL ⟨b, bs⟩)[i + 1]? = (bs.map v8)[i]? from rfl, ← this, List.getElem?_take_of_lt (by show i < 16; omega), List.getElem?_drop]
    show _ = cs[1 + i]?
    rw [Nat.add_comm]
theorem open_tuple {r : Reach} {b0 : Nat} {v : Value} {d : DataW H} {ps : List MemPlace} (hv : Value.okWide Try.prog W r b0 51 v) (hd : DataW.Trod enc Try.prog W 0 (fun _ => true) true 51 v d ps) :
    ∃ t, v = tuC t ∧ t.Ok := by
  obtain ⟨cs, rfl, hcs⟩ := okWide_struct Try.underlying51 hv
  rw [cells_tu] at hcs
  obtain ⟨fuel, hf⟩ := hd
  obtain ⟨xs, n, _, _, _, hlen, hg⟩ := DataW.trod_struct Try.underlying51 hf
  have some_ : ∀ j, j < 5 → ∃ y, xs[j]? = some y := fun j hj => ⟨_, List.getElem?_eq_getElem (by rw [hlen]; exact hj)⟩
  obtain ⟨y0, e0⟩ := some_ 0 (by omega)
  obtain ⟨y1, e1⟩ := some_ 1 (by omega)
  obtain ⟨y2, e2⟩ := some_ 2 (by omega)
  obtain ⟨y3, e3⟩ := some_ 3 (by omega)
  obtain ⟨y4, e4⟩ := some_ 4 (by omega)
  obtain ⟨a, la, ca⟩ := ad_cells ((hg 0 _ rfl).trans e0)
  obtain ⟨b, lb, cb⟩ := ad_cells ((hg 1 _ rfl).trans e1)
  obtain ⟨h2, z2, _, _⟩ := DataW.trod_int Try.underlying3 ((hg 2 _ rfl).trans e2)
  obtain ⟨h3, z3, _, _⟩ := DataW.trod_int Try.underlying3 ((hg 3 _ rfl).trans e3)
  obtain ⟨h4, z4, _, _⟩ := DataW.trod_int Try.underlying3 ((hg 4 _ rfl).trans e4)
  have k2 : cs.toList[34]? = some (.int .i64 h2) := one_of_take (cs := cs.toList) z2
  have k3 : cs.toList[35]? = some (.int .i64 h3) := one_of_take (cs := cs.toList) z3
  have k4 : cs.toList[36]? = some (.int .i64 h4) := one_of_take (cs := cs.toList) z4
  have hok : Tu.Ok ⟨a, b, h2, h3, h4⟩ := ⟨la, lb⟩
  refine ⟨⟨a, b, h2, h3, h4⟩, ?_, hok⟩
  unfold tuC
  congr 1
  have : cs.toList = tuL ⟨a, b, h2, h3, h4⟩ := by
    apply List.ext_getElem?
    intro i
    by_cases hi : i < 17
    · have := ca i hi
      have e : (tuL ⟨a, b, h2, h3, h4⟩)[i]? = (adL a)[i]? := by
        unfold tuL
        rw [List.getElem?_append_left (by rw [adL_len la]; omega)]
      rw [e, ← this, List.getElem?_take_of_lt (by show i < 17; omega), List.getElem?_drop]
      show _ = cs.toList[0 + i]?
      rw [Nat.zero_add]
    · by_cases hi2 : i < 34
      · have := cb (i - 17) (by omega)
        have e : (tuL ⟨a, b, h2, h3, h4⟩)[i]? = (adL b)[i - 17]? := by
          unfold tuL
          rw [List.getElem?_append_right (by rw [adL_len la]; omega), adL_len la, List.getElem?_append_left (by rw [adL_len lb]; omega)]
        rw [e, ← this, List.getElem?_take_of_lt (by show i - 17 < 17; omega), List.getElem?_drop]
        show _ = cs.toList[17 + (i - 17)]?
        rw [show 17 + (i - 17) = i by omega]
      · by_cases hi3 : i < 37
        · obtain ⟨j, rfl⟩ : ∃ j, i = 34 + j := ⟨i - 34, by omega⟩
          rw [tuL_num hok j]
          match j, hi3 with
          | 0, _ => exact k2
          | 1, _ => exact k3
          | 2, _ => exact k4
          | j + 3, h => omega
        · rw [List.getElem?_eq_none (by simp; omega), List.getElem?_eq_none (by rw [tuL_len hok]; omega)]
  rw [← this]
end
end Go.Proofs.Ytomkfcpellcncaa
