/-
  PROVED HERE: 'LinkTurnsSaid': whatever bytes b and addresses dst and src are, the Go function LinkTurns of package wayleavelaw07 returns true, and its arguments read behind the call as they read before. No condition.
-/
import Derived.Test.YtbahlhafckkapaaLOpen
namespace Go.Proofs.Ytbahlhafckkapaa
open Go.RowKit Go.Lib Go.ChangeShapes Go.WideShapes Go.ChangeAt

theorem Blk.setCells_mid {T : TypeId} {g : Nat} (post : List Value) : ∀ (vs pre old : List Value) (w : World) (o : Nat), pre.length = o → old.length = vs.length → Blk w T g (pre ++ (old ++ post)) → Blk (w.setCells g o vs) T g (pre ++ (vs ++ post))
  | [], pre, old, w, o, _, ho, h => by
    obtain rfl : old = [] := List.eq_nil_of_length_eq_zero (by simpa using ho)
    exact h
  | v :: vs, pre, [], _, _, _, ho, _ => by simp at ho
  | v :: vs, pre, u :: old, w, o, hp, ho, h => by
    have h1 := h.set o v
    have e : (pre ++ (u :: old ++ post)).set o v = (pre ++ [v]) ++ (old ++ post) := by
      rw [List.set_append_right _ _ (by omega), hp, Nat.sub_self]
      simp
    rw [e] at h1
    have := Blk.setCells_mid post vs (pre ++ [v]) old _ (o + 1) (by simp [hp]) (by simpa using ho) h1
    show Blk ((w.setCell ⟨g, o, none⟩ v).setCells g (o + 1) vs) T g _
    simpa using this
theorem below_setCells {B : Nat} {w0 : World} {g : Nat} (hg : B ≤ g) : ∀ (vs : List Value) (w : World) (o : Nat), Below B w0 w → Below B w0 (w.setCells g o vs)
  | [], _, _, h => h
  | v :: vs, _, o, h => below_setCells hg vs _ (o + 1) (h.setCell (p := ⟨g, o, none⟩) hg v)
theorem Blk.there {w : World} {T : TypeId} {g : Nat} {cs : List Value} (h : Blk w T g cs) {o n : Nat} (hn : o + n ≤ cs.length) : w.there g o n := fun j hj => by
  have hv : cs[o + j]? = some (cs[o + j]'(by omega)) := List.getElem?_eq_getElem (by omega)
  exact ⟨by rw [h.cell hv]; rfl, h.frozen _⟩
theorem Blk.set_dst {w : World} {g : Nat} {L : Lk} {tv : Value} (h6 : L.Six) (h : Blk w 27 g (lkL L tv)) (d : List UInt8) (hd : d.length = 6) : Blk (w.setCells g 0 (d.map v8)) 27 g (lkL ⟨d, L.s, L.ts, L.ty, L.at_⟩ tv) :=
  Blk.setCells_mid (L.s.map v8 ++ [tv, .int .i64 L.ty, .int .i64 L.at_]) (d.map v8) [] (L.d.map v8) w 0 rfl (by rw [List.length_map, List.length_map, h6.d, hd]) h
theorem Blk.set_src {w : World} {g : Nat} {L : Lk} {tv : Value} (h6 : L.Six) (h : Blk w 27 g (lkL L tv)) (s : List UInt8) (hs : s.length = 6) : Blk (w.setCells g 6 (s.map v8)) 27 g (lkL ⟨L.d, s, L.ts, L.ty, L.at_⟩ tv) :=
  Blk.setCells_mid [tv, .int .i64 L.ty, .int .i64 L.at_] (s.map v8) (L.d.map v8) (L.s.map v8) w 6 (by rw [List.length_map, h6.d]) (by rw [List.length_map, List.length_map, h6.s, hs]) h

theorem gb_setCells {a : World} {g : Nat} : ∀ (vs : List Value) (w : World) (o : Nat), a.grownBy w (some g) → a.grownBy (w.setCells g o vs) (some g)
  | [], _, _, h => h
  | v :: vs, _, o, h => gb_setCells vs _ (o + 1) (gb_set h o v)
/-- The first address of a header is stored. -/
theorem wpList_storeDst {w : World} {ops : Array Oper} {rest : List Oper} {op : Oper} {a : Act} {Q : Exit → Act → World → Prop} (hgd : op.guard = none) (x y : Operand) (ho : op.op = .store 24 x y)
    (g : Nat) (hx : a.eval x = .pointer (some ⟨g, 0, none⟩)) (d : List UInt8) (hd : d.length = 6) (hy : a.eval y = .agg (d.map v8).toArray) (L : Lk) (h6 : L.Six) (tv : Value) (hb : Blk w 27 g (lkL L tv))
    (h : ∀ w', Blk w' 27 g (lkL ⟨d, L.s, L.ts, L.ty, L.at_⟩ tv) → w.grownBy w' (some g) → wpList Try.prog ops Q rest (a.put op.dst undef) w') : wpList Try.prog ops Q (op :: rest) a w :=
  wpList_store_mid hgd 24 x y ho g 0 (d.map v8).toArray hx hy (by simpa [hd] using hb.there (o := 0) (n := 6) (by rw [lkL_len h6]; omega)) (by simpa [hd] using size6) (all_oneCell_toArray (oneCell8 d)) (h _ (hb.set_dst h6 d hd) (gb_setCells _ _ _ (World.grownBy.refl w (some g))))
/-- The second address of a header is stored. -/
theorem wpList_storeSrc {w : World} {ops : Array Oper} {rest : List Oper} {op : Oper} {a : Act} {Q : Exit → Act → World → Prop} (hgd : op.guard = none) (x y : Operand) (ho : op.op = .store 24 x y)
    (g : Nat) (hx : a.eval x = .pointer (some ⟨g, 6, none⟩)) (s : List UInt8) (hs : s.length = 6) (hy : a.eval y = .agg (s.map v8).toArray) (L : Lk) (h6 : L.Six) (tv : Value) (hb : Blk w 27 g (lkL L tv))
    (h : ∀ w', Blk w' 27 g (lkL ⟨L.d, s, L.ts, L.ty, L.at_⟩ tv) → w.grownBy w' (some g) → wpList Try.prog ops Q rest (a.put op.dst undef) w') : wpList Try.prog ops Q (op :: rest) a w :=
  wpList_store_mid hgd 24 x y ho g 6 (s.map v8).toArray hx hy (by simpa [hs] using hb.there (o := 6) (n := 6) (by rw [lkL_len h6]; omega)) (by simpa [hs] using size6) (all_oneCell_toArray (oneCell8 s)) (h _ (hb.set_src h6 s hs) (gb_setCells _ _ _ (World.grownBy.refl w (some g))))

set_option maxRecDepth 100000 in
set_option maxHeartbeats 4000000 in
theorem linkTurns_walk (A : Option Addr) (len cap : Nat) (xs : List UInt8) (hcap : len ≤ cap) (hcm : cap ≤ maxLen) (d : List UInt8) (hd : d.length = 6) (s : List UInt8) (hs : s.length = 6) (w : World) (hI : Rd w w.heap.size A len xs) :
    Calls Try.prog 7 #[.slice A len cap, .agg (d.map v8).toArray, .agg (s.map v8).toArray] w fun e w' => e = .returned (.bool true) ∧ Below w.heap.size w w' := by
  have hml : len ≤ 9223372036854775807 := by unfold maxLen at hcm; omega
  have HXL := Lib.hid hI.len
  obtain ⟨c0, hc0⟩ : ∃ c, (d.map v8).toArray = c := ⟨_, rfl⟩
  obtain ⟨c1, hc1⟩ : ∃ c, (s.map v8).toArray = c := ⟨_, rfl⟩
  have b0 : Blk ((w.alloc (.cells c0 24)).alloc (.cells c1 24)) 24 w.heap.size (d.map v8) := by
    rw [← hc0]; exact (Blk.new w _ _).alloc _
  have b1 : Blk ((w.alloc (.cells c0 24)).alloc (.cells c1 24)) 24 (w.heap.size + 1) (s.map v8) := by
    rw [← hc1]
    have := Blk.new (w.alloc (.cells c0 24)) 24 (s.map v8)
    simpa using this
  have hB0 : Below w.heap.size w ((w.alloc (.cells c0 24)).alloc (.cells c1 24)) := ((Below.refl w.heap.size w).alloc (Nat.le_refl _) _).alloc (by simp) _
  have hz0 : ((w.alloc (.cells c0 24)).alloc (.cells c1 24)).heap.size = w.heap.size + 2 := by simp
  have m6 : (Try.prog.info? 24).map (·.size) = some (d.map v8).length := by rw [List.length_map, hd]; exact size6
  have m6' : (Try.prog.info? 24).map (·.size) = some (s.map v8).length := by rw [List.length_map, hs]; exact size6
  have ta := fun W hW => turnlk_any A len cap xs (w := W) (hI := hW) (d := d) (hd := hd) (s := s) (hs := hs)
  rw [hc0, hc1] at ta ⊢
  obtain ⟨w0, hw0⟩ : ∃ w0, (w.alloc (.cells c0 24)).alloc (.cells c1 24) = w0 := ⟨_, rfl⟩
  rw [hw0] at b0 b1 hB0 hz0
  have HW0 := Lib.hid hw0
  have HB0 := Lib.hid hB0
  have HD0 := Lib.hid b0
  have HS0 := Lib.hid b1
  have HZ0 := Lib.hid hz0
  have M6 := Lib.hid m6
  have M6' := Lib.hid m6'
  have HC0 := Lib.hid hc0
  have HC1 := Lib.hid hc1
  have HTA := Lib.hid ta
  clear b0 b1 hB0 hw0 hz0 m6 m6' hc0 hc1 ta
  go_enter Try.func7, Try.ntmps7
  go_wp2_with fail
  rw [HW0.out]
  refine (awake_any _).mono ?_
  rintro e w1 ⟨rfl, hb1⟩
  have z1 : w.heap.size + 2 ≤ w1.heap.size := by have := hb1.size; rw [HZ0.out] at this; exact this
  have HD1 := Lib.hid (HD0.out.below (by rw [HZ0.out]; omega) hb1)
  have HS1 := Lib.hid (HS0.out.below (by rw [HZ0.out]; omega) hb1)
  have B1 := HB0.out.trans (hb1.mono HB0.out.size)
  clear hb1
  by_cases hle : 1000 < len
  · have hle' : (1000 : Int) < (len : Int) := by omega
    go_wp2_with fail
    refine (awake_any _).mono ?_
    rintro e w2 ⟨rfl, hb2⟩
    go_wp2_with fail
    go_ret
    exact ⟨rfl, B1.trans (hb2.mono B1.size)⟩
  · have hle' : ¬ (1000 : Int) < (len : Int) := by omega
    have HI1 := Lib.hid ((hI.below B1).more B1.size)
    go_wp2_with (first
      | ((with_reducible show wpList _ _ _ _ _ _); refine wpList_load_mid rfl 24 (.tmp 4) rfl w.heap.size 0 (by rfl) (d.map v8) _ HD1.out.range Try.underlying24 rfl M6.out ?_; rw [HC0.out])
      | ((with_reducible show wpList _ _ _ _ _ _); refine wpList_load_mid rfl 24 (.tmp 5) rfl (w.heap.size + 1) 0 (by rfl) (s.map v8) _ HS1.out.range Try.underlying24 rfl M6'.out ?_; rw [HC1.out]))
    refine (HTA.out w1 HI1.out (by omega)).mono ?_
    rintro e w2 ⟨v2, rfl, ho2, hb2⟩
    have hlen := turnOf_len xs d s hd hs
    rw [HXL.out] at hlen
    obtain ⟨A2, c2, rfl, hc2, hm2, hr2⟩ := ho2.form hlen
    have z2 := hb2.size
    have HD2 := Lib.hid (HD1.out.below (by omega) hb2)
    have HS2 := Lib.hid (HS1.out.below (by omega) hb2)
    have HI2 := Lib.hid (HI1.out.below hb2)
    have B2 := B1.trans (hb2.mono B1.size)
    have HR2 := Lib.hid hr2
    have HLEN := Lib.hid hlen
    have hne : ((len : Int) != (len : Int)) = false := by simp
    clear ho2 hb2 hr2 hlen
    go_wp2_with fail
    go_loop [8] (fun i => ∃ k : Nat, k ≤ len ∧ i = .int .i64 (k : Int)) (fun i => len - (intOf i).toNat)
    case atStart => exact ⟨0, by omega, rfl⟩
    case round =>
      obtain ⟨k, hk, rfl⟩ := hrel
      by_cases hlt : k < len
      · have hlt' : (k : Int) < (len : Int) := by omega
        obtain ⟨b, off, rfl, _⟩ := HI2.out.addr (by omega)
        have g1 := HI2.out.cell (k := k) hlt
        obtain ⟨x, hx⟩ : ∃ x, xs[k]'(by rw [HXL.out]; exact hlt) = x := ⟨_, rfl⟩
        rw [hx] at g1
        have hx0 : xs[k]? = some x := by rw [← hx]; exact List.getElem?_eq_getElem _
        obtain ⟨b2, off2, rfl, _⟩ := HR2.out.addr (by omega)
        have g2 := HR2.out.cell (k := k) hlt
        obtain ⟨y, hy⟩ : ∃ y, (turnOf xs d s)[k]'(by rw [HLEN.out]; exact hlt) = y := ⟨_, rfl⟩
        rw [hy] at g2
        have hy0 : (turnOf xs d s)[k]? = some y := by rw [← hy]; exact List.getElem?_eq_getElem _
        rw [turnOf_get xs d s hd hs k (by rw [HXL.out]; exact hlt)] at hy0
        have hyy : ((y.toNat : Int) != (y.toNat : Int)) = false := by simp
        have hyn : (y.toNat != y.toNat) = false := by simp
        clear hx hy
        by_cases h6k : k < 6
        · have h6k' : (k : Int) < 6 := by omega
          rw [if_pos h6k] at hy0
          have cd : w2.cell? ⟨w.heap.size, k, none⟩ = some (.int .u8 (y.toNat : Int)) := HD2.out.cell (by rw [List.getElem?_map, hy0]; rfl)
          clear hx0 hy0
          go_wp2_with fail
          go_round
          case rel => exact ⟨k + 1, by omega, by go_num⟩
          case measure => simp [intOf]; omega
        · have h6k' : ¬ (k : Int) < 6 := by omega
          rw [if_neg h6k] at hy0
          by_cases h12 : k < 12
          · have h12' : (k : Int) < 12 := by omega
            rw [if_pos h12] at hy0
            have cs_ : w2.cell? ⟨w.heap.size + 1, k - 6, none⟩ = some (.int .u8 (y.toNat : Int)) := HS2.out.cell (by rw [List.getElem?_map, hy0]; rfl)
            have hw6 : IntKind.i64.wrap ((k : Int) - 6) = (k : Int) - 6 := by rw [IntKind.wrap_i64]; omega
            have h60 : (0 : Int) ≤ (k : Int) - 6 := by omega
            have h66 : (k : Int) - 6 < 6 := by omega
            have h6n : ((k : Int) - 6).toNat = k - 6 := by omega
            clear hx0 hy0
            go_wp2_with fail
            clear hw6
            go_round
            case rel => exact ⟨k + 1, by omega, by go_num⟩
            case measure => simp [intOf]; omega
          · have h12' : ¬ (k : Int) < 12 := by omega
            rw [if_neg h12, hx0] at hy0
            cases hy0
            clear hx0
            go_wp2_with fail
            go_round
            case rel => exact ⟨k + 1, by omega, by go_num⟩
            case measure => simp [intOf]; omega
      · obtain rfl : k = len := by omega
        clear hlt hk
        obtain ⟨L, q, hr⟩ : ∃ L q, rdOf xs = (L, q) := ⟨_, _, rfl⟩
        obtain ⟨h6, hts2, _⟩ := rdOf_six xs L q hr
        have hrt := rdOf_turn xs d s hd hs
        rw [hr] at hrt
        have HR := Lib.hid hr
        have HI2' := Lib.hid (HI2.out.more (B' := w2.heap.size) z2)
        by_cases hq : q = 0
        · subst hq
          have hrt' : rdOf (turnOf xs d s) = (⟨d, s, L.ts, L.ty, L.at_⟩, 0) := hrt
          have HRT := Lib.hid hrt'
          clear hr hrt hrt'
          go_wp2_with fail
          refine (read_as HR.out 0 rfl (by omega) hcap hcm HI2'.out).mono ?_
          rintro e w3 ⟨B3, m3, c3, rfl, hm3, _, ht3, _, hb3⟩
          have z3 := hb3.size
          have HR3 := Lib.hid (HR2.out.below hb3)
          have HT3 := Lib.hid ht3
          have HD3 := Lib.hid (HD2.out.below (by omega) hb3)
          have HS3 := Lib.hid (HS2.out.below (by omega) hb3)
          have HM3 := Lib.hid hm3
          have B3' := B2.trans (hb3.mono B2.size)
          clear ht3 hb3 hm3
          go_wp2_with ((with_reducible show wpList _ _ _ _ _ _); refine wpList_storeNew rfl (.tmp 10) (.tmp 61) rfl (by rfl) L h6 (.slice B3 m3 c3) rfl (by rfl) ?_; intro w4 hM4 hb4 hz4)
          have z4 := hb4.size
          have HR4 := Lib.hid ((HR3.out.below (hb4.mono z3)).more (B' := w4.heap.size) (by omega))
          have HT4 := Lib.hid (HT3.out.below hb4)
          have HD4 := Lib.hid (HD3.out.below (by omega) hb4)
          have HS4 := Lib.hid (HS3.out.below (by omega) hb4)
          have HM4 := Lib.hid hM4
          have HZ4 := Lib.hid hz4
          have B4 := B3'.trans (hb4.mono B3'.size)
          have E4 := Lib.hid hb4
          clear hM4 hb4 hz4
          refine (read_as HRT.out 0 rfl (by omega) hc2 hm2 HR4.out).mono ?_
          rintro e w5 ⟨B5, m5, c5, rfl, hm5, _, ht5, hg5, hb5⟩
          have HG5 := Lib.hid hg5
          clear hg5
          have z5 := hb5.size
          have HT5 := Lib.hid (HT4.out.below (hb5.mono z4))
          have HU5 := Lib.hid ht5
          have HD5 := Lib.hid (HD4.out.below (by omega) hb5)
          have HS5 := Lib.hid (HS4.out.below (by omega) hb5)
          have HM5 := Lib.hid (HM4.out.below (by have := HZ4.out; omega) hb5)
          have B5' := B4.trans (hb5.mono B4.size)
          have h6' : Lk.Six ⟨d, s, L.ts, L.ty, L.at_⟩ := ⟨hd, hs⟩
          have E5a := Lib.hid hb5
          clear ht5 hb5 hm5
          have hne35 : w3.heap.size ≠ w5.heap.size := by have := HZ4.out; omega
          have E5 := Lib.hid (E4.out.trans ((show Below w4.heap.size w4 w5 from E5a.out).mono z4))
          go_wp2_with (first
            | ((with_reducible show wpList _ _ _ _ _ _); refine wpList_storeNew rfl (.tmp 12) (.tmp 66) rfl (by rfl) ⟨d, s, L.ts, L.ty, L.at_⟩ h6' (.slice B5 m5 c5) rfl (by rfl) ?_; intro w6 hM6 hb6 hz6; have HM6 := Lib.hid hM6; have HK6 := Lib.hid (HM5.out.below (by have := HZ4.out; omega) hb6); have HD6 := Lib.hid (HD5.out.below (by omega) hb6); have HS6 := Lib.hid (HS5.out.below (by omega) hb6); have E6 := Lib.hid hb6; have HZ6 := Lib.hid hz6; clear hM6 hb6 hz6)
            | ((with_reducible show wpList _ _ _ _ _ _); refine wpList_load_mid rfl 24 (.tmp 4) rfl w.heap.size 0 (by rfl) (d.map v8) _ HD6.out.range Try.underlying24 rfl M6.out ?_)
            | ((with_reducible show wpList _ _ _ _ _ _); refine wpList_storeDst rfl (.tmp 74) (.tmp 73) rfl w3.heap.size (by rfl) d hd (by rfl) L h6 (.slice B3 m3 c3) HK6.out ?_; intro w7 hK7 hg7; have HK7 := Lib.hid hK7; have HM7 := Lib.hid (HM6.out.grown hg7 (fun e => hne35 (Option.some.inj e))); have HS7 := Lib.hid (HS6.out.grown hg7 (fun e => by have := Option.some.inj e; omega)); have G7 := Lib.hid hg7; clear hK7 hg7)
            | ((with_reducible show wpList _ _ _ _ _ _); refine wpList_load_mid rfl 24 (.tmp 5) rfl (w.heap.size + 1) 0 (by rfl) (s.map v8) _ HS7.out.range Try.underlying24 rfl M6'.out ?_)
            | ((with_reducible show wpList _ _ _ _ _ _); refine wpList_storeSrc rfl (.tmp 76) (.tmp 75) rfl w3.heap.size (by rfl) s hs (by rfl) ⟨d, L.s, L.ts, L.ty, L.at_⟩ ⟨hd, h6.s⟩ (.slice B3 m3 c3) HK7.out ?_; intro w8 hK8 hg8; have HK8 := Lib.hid hK8; have HM8 := Lib.hid (HM7.out.grown hg8 (fun e => hne35 (Option.some.inj e))); have G8 := Lib.hid hg8; clear hK8 hg8)
            | ((with_reducible show wpList _ _ _ _ _ _); refine wpList_loadLw (.tmp 10) rfl (by rfl) w3.heap.size (by rfl) ⟨d, s, L.ts, L.ty, L.at_⟩ h6' (.slice B3 m3 c3) HK8.out ?_)
            | ((with_reducible show wpList _ _ _ _ _ _); refine wpList_loadLw (.tmp 12) rfl (by rfl) w5.heap.size (by rfl) ⟨d, s, L.ts, L.ty, L.at_⟩ h6' (.slice B5 m5 c5) HM8.out ?_))
          have F8 : Below w3.heap.size w3 w8 := by
            have f6 : Below w3.heap.size w3 w6 := E5.out.trans (E6.out.mono (by omega))
            exact (f6.trans (gb_to_below G7.out (Nat.le_refl _) f6.size)).trans (gb_to_below G8.out (Nat.le_refl _) (Nat.le_trans f6.size G7.out.size))
          have F85 : ∀ p : Addr, p.block < w5.heap.size → p.block ≠ w3.heap.size → w8.cell? p = w5.cell? p := by
            intro p hp hne
            have h1 := E6.out.cell hp
            have h2 := World.cell?_of_block (G7.out.block p.block (by have := HZ6.out; omega) (fun e => hne (Option.some.inj e)))
            have h3 := World.cell?_of_block (G8.out.block p.block (by have := HZ6.out; have := G7.out.size; omega) (fun e => hne (Option.some.inj e)))
            exact (h3.trans h2).trans h1
          have HU8 : TagsAt w8 w5.heap.size B5 m5 L.ts := by
            refine ⟨HU5.out.1, fun h0 => ?_⟩
            obtain ⟨b, off, e, hb, hc⟩ := HU5.out.2 h0
            obtain ⟨g, e2, hgl⟩ := HG5.out h0
            have hbg : b = g := by rw [e] at e2; cases e2; rfl
            have hz := HZ4.out
            have hbn : b ≠ w3.heap.size := by omega
            refine ⟨b, off, e, hb, fun j x hx => ?_⟩
            obtain ⟨c1, c2⟩ := hc j x hx
            exact ⟨(F85 _ hb hbn).trans c1, (F85 _ hb hbn).trans c2⟩
          have HT8 : TagsAt w8 w3.heap.size B3 m3 L.ts := HT5.out.keep fun p hp => F85 p (by omega) (by omega)
          have B8 := B3'.trans (F8.mono B3'.size)
          have z58 : w5.heap.size ≤ w8.heap.size := by have := HZ6.out; have := G7.out.size; have := G8.out.size; omega
          refine (same_lk ⟨d, s, L.ts, L.ty, L.at_⟩ h6' c3 c5 (by have := HM3.out; omega) z58 (HT8.more (by omega)) HU8).mono ?_
          rintro e w9 ⟨rfl, hb9⟩
          go_wp2_with fail
          go_ret
          exact ⟨rfl, B8.trans (hb9.mono B8.size)⟩
        · have hrt' : rdOf (turnOf xs d s) = (L, q) := by rw [hrt]; simp [hq]
          have HRT := Lib.hid hrt'
          have hq' : ((q : Int) != 0) = true := by simp [hq]
          have hq'' : ((q : Int) == 0) = false := by simp [hq]
          have hqq : ((q : Int) == (q : Int)) = true := by simp
          clear hr hrt hrt'
          go_wp2_with fail
          refine (read_as HR.out (q : Int) rfl (by omega) hcap hcm HI2'.out).mono ?_
          rintro e w3 ⟨B3, m3, c3, rfl, hm3, _, ht3, _, hb3⟩
          have z3 := hb3.size
          have HR3 := Lib.hid (HR2.out.below hb3)
          have B3' := B2.trans (hb3.mono B2.size)
          clear ht3 hb3 hm3
          go_wp2_with ((with_reducible show wpList _ _ _ _ _ _); refine wpList_storeNew rfl (.tmp 10) (.tmp 61) rfl (by rfl) L h6 (.slice B3 m3 c3) rfl (by rfl) ?_; intro w4 hM4 hb4 hz4)
          have z4 := hb4.size
          have HR4 := Lib.hid ((HR3.out.below (hb4.mono z3)).more (B' := w4.heap.size) (by omega))
          have B4 := B3'.trans (hb4.mono B3'.size)
          clear hM4 hb4 hz4
          refine (read_as HRT.out (q : Int) rfl (by omega) hc2 hm2 HR4.out).mono ?_
          rintro e w5 ⟨B5, m5, c5, rfl, hm5, _, ht5, _, hb5⟩
          have B5' := B4.trans (hb5.mono B4.size)
          clear ht5 hb5 hm5
          go_wp2_with ((with_reducible show wpList _ _ _ _ _ _); refine wpList_storeNew rfl (.tmp 12) (.tmp 66) rfl (by rfl) L h6 (.slice B5 m5 c5) rfl (by rfl) ?_; intro w6 hM6 hb6 hz6)
          go_ret
          exact ⟨rfl, B5'.trans (hb6.mono B5'.size)⟩

theorem linkTurns_walks : WalksTrue 7 Try.f7 := by
  intro H enc W base args ds p hval hA
  rw [Try.params7] at hA hval
  obtain ⟨v0, vs0, d0, ds0, p0, q0, hargs, rfl, rfl, h0, r0⟩ := trodAll_cons hA
  obtain ⟨v1, vs1, d1, ds1, p1, q1, rfl, rfl, rfl, h1, r1⟩ := trodAll_cons r0
  obtain ⟨v2, vs2, d2, ds2, p2, q2, rfl, rfl, rfl, h2, r2⟩ := trodAll_cons r1
  obtain ⟨rfl, rfl, rfl⟩ := trodAll_nil r2
  obtain rfl : args = #[v0, v1, v2] := by cases args; simp_all
  obtain ⟨A0, len0, cap0, xs0, rfl, hc0, hm0, hI0⟩ := open_bytes (hval 0 22 v0 rfl rfl) h0
  obtain ⟨bs1, rfl, hl1⟩ := open_six h1
  obtain ⟨bs2, rfl, hl2⟩ := open_six h2
  exact linkTurns_walk A0 len0 cap0 xs0 hc0 hm0 bs1 hl1 bs2 hl2 W hI0

theorem linkTurns_said : Rows.LinkTurnsSaid :=
  OpenClaim.holds_of_wide 7 Try.f7 rfl rfl rfl rfl rfl rfl rfl ⟨rfl, rfl, rfl, rfl, rfl⟩ rfl rfl rfl rfl rfl (by kernel_rfl) Try.func7 (by kernel_rfl)
    (of_decide_eq_true (by kernel_rfl)) (by unfold Func.isWrapper; first | (rw [if_pos (by decide +kernel)]; kernel_rfl) | (rw [if_neg (by decide +kernel)]; exact ⟨rfl, rfl⟩))
    (fun os started H enc _ => law_lift (s := Rows.linkTurnsSpec) Try.func7 (by kernel_rfl) rfl rfl (by intro H ds hd; match ds, hd with | [_, _, _], _ => exact ⟨rfl, rfl, rfl⟩) (by kernel_rfl) linkTurns_walks os started H enc
      (ChangeSpec.witness6 (enc := enc) (C := Try.checked) false ⟨#[], #[.slice none 0 0, .agg #[.int .u8 0, .int .u8 0, .int .u8 0, .int .u8 0, .int .u8 0, .int .u8 0], .agg #[.int .u8 0, .int .u8 0, .int .u8 0, .int .u8 0, .int .u8 0, .int .u8 0]], []⟩ 8 (by kernel_rfl) (by kernel_rfl) (by kernel_rfl) (by kernel_rfl)))

end Go.Proofs.Ytbahlhafckkapaa
