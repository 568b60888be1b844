/-
  The document's Turn, Family, and its header with a Type.
-/
import Derived.Test.YtomkfcpellcncaaKCell
namespace Go.Proofs.Ytomkfcpellcncaa
open Go.RowKit Go.Lib
/-- A tuple in its box, and a box of noughts. -/
theorem box_tu (w : World) (t : Tu) (zs : List Value) (T : TypeId) : ∃ Y : World, (w.alloc (.cells (tuL t).toArray 51)).alloc (.cells zs.toArray T) = Y ∧ Blk Y 51 w.heap.size (tuL t) ∧ Blk Y T (w.heap.size + 1) zs ∧ Below w.heap.size w Y := by
  refine ⟨_, rfl, (Blk_10.new w 51 (tuL t)).alloc _, ?_, ((Below.refl w.heap.size w).alloc (Nat.le_refl _) _).alloc (by simp) _⟩
  have := Blk_10.new (w.alloc (.cells (tuL t).toArray 51)) T zs
  rwa [World.size_alloc] at this
/-- Are two addresses of one family? -/
def famB (a b : Ad) : Bool := a.six == b.six && (a.six || (shortB a && shortB b))
theorem box_ads (w : World) (a b : Ad) : ∃ Y : World, (w.alloc (.cells (adL a).toArray 25)).alloc (.cells (adL b).toArray 25) = Y ∧ Blk Y 25 w.heap.size (adL a) ∧ Blk Y 25 (w.heap.size + 1) (adL b) ∧ Below w.heap.size w Y := by
  refine ⟨_, rfl, (Blk_10.new w 25 (adL a)).alloc _, ?_, ((Below.refl w.heap.size w).alloc (Nat.le_refl _) _).alloc (by simp) _⟩
  have := Blk_10.new (w.alloc (.cells (adL a).toArray 25)) 25 (adL b)
  rwa [World.size_alloc] at this
set_option maxHeartbeats 2000000 in
theorem rfamily_any {a b : Ad} (ha : a.b.length = 16) (hb : b.b.length = 16) (w : World) : Calls Try.prog 25 #[adC a, adC b] w fun e w' => e = .returned (.bool (famB a b)) ∧ Below w.heap.size w w' := by
  obtain ⟨Y, hY, hq, hr, hbel⟩ := box_ads w a b
  have d0 : Y.cell? ⟨w.heap.size, 0, none⟩ = some (.bool a.six) := Blk_10.cell hq rfl
  have d1 : Y.cell? ⟨w.heap.size + 1, 0, none⟩ = some (.bool b.six) := Blk_10.cell hr rfl
  have HS := Lib.hid (fun W => rshort_any ha W)
  have HT := Lib.hid (fun W => rshort_any hb W)
  have HA := Lib.hid ha
  have HBB := Lib.hid hb
  obtain ⟨r, hr2⟩ : ∃ r, famB a b = r := ⟨_, rfl⟩
  rw [hr2]
  have HR2 := Lib.hid hr2
  have k0 := Blk_10.range hq
  have k1 := Blk_10.range hr
  obtain ⟨six, hs⟩ : ∃ s, a.six = s := ⟨_, rfl⟩
  obtain ⟨sb, hsb⟩ : ∃ s, b.six = s := ⟨_, rfl⟩
  obtain ⟨sa, hsa⟩ : ∃ s, shortB a = s := ⟨_, rfl⟩
  obtain ⟨st, hst⟩ : ∃ s, shortB b = s := ⟨_, rfl⟩
  have HF : Hid (famB a b = (six == sb && (six || (sa && st)))) := Lib.hid (by unfold famB; rw [hs, hsb, hsa, hst])
  rw [hs] at d0
  rw [hsb] at d1
  rw [hsa] at HS
  rw [hst] at HT
  have E0 := Lib.hid (show adC a = .agg (adL a).toArray from rfl)
  have E1 := Lib.hid (show adC b = .agg (adL b).toArray from rfl)
  rw [E0.out, E1.out]
  rw [E0.out] at HS
  rw [E1.out] at HT
  obtain ⟨C0, hC0⟩ : ∃ C, (adL a).toArray = C := ⟨_, rfl⟩
  obtain ⟨C1, hC1⟩ : ∃ C, (adL b).toArray = C := ⟨_, rfl⟩
  rw [hC0, hC1] at hY ⊢
  rw [hC0] at HS
  rw [hC1] at HT
  have HC0 : Hid (addrC a.six a.b = C0) := Lib.hid hC0
  have HC1 : Hid (addrC b.six b.b = C1) := Lib.hid hC1
  have HY := Lib.hid hY
  rw [← HY.out] at d0 d1
  have K0 := Lib.hid k0
  have K1 := Lib.hid k1
  have HB := Lib.hid hbel
  have HG := Lib.hid (Blk_10.lt hr)
  clear hY hq hr hbel hr2 k0 k1 hs hsb hsa hst ha hb hC0 hC1
  go_enter Try.func25, Try.ntmps25
  cases six with
  | true =>
    cases sb with
    | true =>
      go_wp2_with fail
      go_ret
      exact ⟨by rw [← HR2.out, HF.out]; rfl, by rw [HY.out]; exact HB.out⟩
    | false =>
      go_wp2_with fail
      go_ret
      exact ⟨by rw [← HR2.out, HF.out]; rfl, by rw [HY.out]; exact HB.out⟩
  | false =>
    cases sb with
    | true =>
      go_wp2_with fail
      go_ret
      exact ⟨by rw [← HR2.out, HF.out]; rfl, by rw [HY.out]; exact HB.out⟩
    | false =>
      go_wp2_with ((with_reducible show wpList _ _ _ _ _ _); rw [HY.out]; refine wpList_loadC (op := ⟨some 13, _, _, _, _, _⟩) _ rfl (by rfl) w.heap.size (by rfl) a.six a.b HA.out K0.out C0 HC0.out ?_)
      refine (HS.out _).mono ?_
      rintro e w3 ⟨rfl, hb3⟩
      have HB3 := Lib.hid (HB.out.trans (hb3.mono HB.out.size))
      have K1b := Lib.hid (range_keep K1.out HG.out hb3)
      clear hb3
      cases sa with
      | false =>
        go_wp2_with fail
        go_ret
        exact ⟨by rw [← HR2.out, HF.out]; rfl, HB3.out⟩
      | true =>
        go_wp2_with ((with_reducible show wpList _ _ _ _ _ _); refine wpList_loadC (op := ⟨some 16, _, _, _, _, _⟩) _ rfl (by rfl) (w.heap.size + 1) (by rfl) b.six b.b HBB.out K1b.out C1 HC1.out ?_)
        refine (HT.out _).mono ?_
        rintro e w4 ⟨rfl, hb4⟩
        have HB4 := Lib.hid (HB3.out.trans (hb4.mono HB3.out.size))
        clear hb4
        go_wp2_with fail
        go_ret
        exact ⟨by rw [← HR2.out, HF.out]; cases st <;> rfl, HB4.out⟩
/-- The Type of a tuple's family. -/
def tyOf (t : Tu) : Int := if t.s.six = true then 34525 else 2048
def typedL (L : Lk) (t : Tu) : Lk := { L with ty := tyOf t }
theorem typed_six {L : Lk} (h : L.Six) (t : Tu) : (typedL L t).Six := ⟨h.d, h.s⟩
theorem zeroLk : (#[.int .u8 0, .int .u8 0, .int .u8 0, .int .u8 0, .int .u8 0, .int .u8 0, .int .u8 0, .int .u8 0, .int .u8 0, .int .u8 0, .int .u8 0, .int .u8 0, .slice none 0 0, .int .i64 0, .int .i64 0] : Array Value) = (lkL Lk.zero (.slice none 0 0)).toArray := rfl
theorem lk_set (L : Lk) (h : L.Six) (tv : Value) (n : Int) : (lkL L tv).set 13 (.int .i64 n) = lkL { L with ty := n } tv := by
  obtain ⟨d, s, ts, ty, at_⟩ := L
  obtain ⟨h1, h2⟩ := h
  match d, s, h1, h2 with
  | [d0, d1, d2, d3, d4, d5], [s0, s1, s2, s3, s4, s5], _, _ => rfl
theorem lk_ty (L : Lk) (h : L.Six) (tv : Value) : (lkL L tv)[13]? = some (.int .i64 L.ty) ∧ (lkL L tv)[14]? = some (.int .i64 L.at_) := by
  obtain ⟨d, s, ts, ty, at_⟩ := L
  obtain ⟨h1, h2⟩ := h
  match d, s, h1, h2 with
  | [d0, d1, d2, d3, d4, d5], [s0, s1, s2, s3, s4, s5], _, _ => exact ⟨rfl, rfl⟩
end Go.Proofs.Ytomkfcpellcncaa
