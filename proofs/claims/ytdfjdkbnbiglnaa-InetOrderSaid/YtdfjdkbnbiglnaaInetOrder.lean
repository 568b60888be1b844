/-
  PROVED HERE: 'InetOrderSaid': whatever l and at are, the Go function InetOrder of package wayleavelaw06 returns true, and its arguments read behind the call as they read before. No condition.
-/
import Derived.Test.YtdfjdkbnbiglnaaIAwake
import Derived.Test.YtdfjdkbnbiglnaaIRef3
import Derived.Test.YtdfjdkbnbiglnaaLift
namespace Go.Proofs.Ytdfjdkbnbiglnaa
open Go.RowKit Go.Lib Go.ChangeShapes Go.WideShapes Go.ChangeAt

/-- The slice reads as these words. -/
def RdU (w : World) (B : Nat) (A : Option Addr) (n : Nat) (xs : List Nat) : Prop :=
  xs.length = n ∧ (∀ x ∈ xs, x < 65536) ∧ (0 < n → ∃ b off, A = some ⟨b, off, none⟩ ∧ b < B ∧ ∀ (j : Nat) (x : Nat), xs[j]? = some x → w.cell? ⟨b, off + j, none⟩ = some (.int .u16 (x : Int)))
theorem RdU.below {w w' : World} {B n : Nat} {A : Option Addr} {xs : List Nat} (h : RdU w B A n xs) (hb : Below B w w') : RdU w' B A n xs :=
  ⟨h.1, h.2.1, fun hn => by
    obtain ⟨b, off, e, hlt, hc⟩ := h.2.2 hn
    exact ⟨b, off, e, hlt, fun j x hx => (hb.cell (p := ⟨b, off + j, none⟩) hlt).trans (hc j x hx)⟩⟩

section
variable {H : Type} {enc : TypeId × Value → H} {W : World}
theorem open_u16s {r : Reach} {b0 : Nat} {v : Value} {d : DataW H} {ps : List MemPlace} (hv : Value.okWide Try.prog W r b0 30 v) (hd : DataW.Trod enc Try.prog W 0 (fun _ => true) true 30 v d ps) :
    ∃ A len cap xs, v = .slice A len cap ∧ len ≤ cap ∧ cap ≤ maxLen ∧ RdU W W.heap.size A len xs := by
  obtain ⟨A, len, cap, rfl⟩ := okWide_slice Try.underlying30 hv
  obtain ⟨fuel, hf⟩ := hd
  rcases open_ints Try.underlying30 Try.underlying23 (by kernel_rfl) hf with ⟨hcs, _⟩ | ⟨x, l, c, zs, hcs, _, hl, hm, hz, _, hcell, hwz⟩
  · simp [Value.cells] at hcs
    obtain ⟨rfl, rfl, rfl⟩ := hcs
    exact ⟨none, 0, 0, [], rfl, by omega, by unfold maxLen; omega, rfl, fun x h => (by cases h), fun h => absurd h (by omega)⟩
  · simp [Value.cells] at hcs
    obtain ⟨rfl, rfl, rfl⟩ := hcs
    have hz' : zs.length = cap := by simpa using hz
    have hwf : ∀ z ∈ zs, 0 ≤ z ∧ z < 65536 := fun z hzm => range_u16 (hwz z hzm)
    refine ⟨_, len, cap, (zs.take len).map Int.toNat, rfl, hl, hm, by simp; omega, fun x hx => ?_, fun h0 => ?_⟩
    · obtain ⟨z, hzm, rfl⟩ := List.mem_map.1 hx
      have := hwf z (List.mem_of_mem_take hzm)
      omega
    · obtain ⟨b, off, spot⟩ := x
      have hc0 := hcell 0 (by omega)
      have hspot : spot = none := by simpa [Addr.add] using World.cell?_spot hc0
      subst hspot
      have hc0' := hcell 0 (by omega)
      rw [add_plain] at hc0'
      refine ⟨b, off, rfl, World.block_lt_of_cell? W _ hc0', fun j y hy => ?_⟩
      have hj : j < len := by
        have := (List.getElem?_eq_some_iff.1 hy).1
        simp at this
        omega
      have hcj := hcell j (by omega)
      rw [add_plain] at hcj
      have hjz : j < zs.length := by omega
      have hw := hwf (zs[j]) (List.getElem_mem _)
      rw [hcj]
      rw [List.getElem?_map, List.getElem?_take, if_pos hj, List.getElem?_eq_getElem hjz] at hy
      simp only [Option.map_some, Option.some.injEq] at hy
      subst hy
      rw [show ((zs[j].toNat : Nat) : Int) = zs[j] by omega]
      simp [List.getD, hjz]
end

theorem word_bytes (c : Nat) (hc : c < 65536) : ([UInt8.ofNat (c / 256), UInt8.ofNat (c % 256)].map v8).toArray = #[.int .u8 ((c : Int) / 256), .int .u8 ((c : Int) % 256)] := by
  simp only [List.map_cons, List.map_nil]
  rw [v8_of (c / 256) (by omega), v8_of (c % 256) (by omega)]
  rfl
theorem wsum_word (xs : List UInt8) (h : xs.length % 2 = 0) (c : Nat) (hc : c < 65536) : wsum false (xs ++ [UInt8.ofNat (c / 256), UInt8.ofNat (c % 256)]) = wsum false xs + c := by
  rw [wsum_append, show turnOdd false xs.length = false from if_neg (by omega)]
  simp [wsum]
  omega
theorem wsum_zeros (xs : List UInt8) (h : xs.length % 2 = 0) : wsum false (xs ++ [0, 0]) = wsum false xs := by
  rw [wsum_append, show turnOdd false xs.length = false from if_neg (by omega)]
  simp [wsum]
theorem take_sum {l : List Nat} {i x : Nat} (h : l[i]? = some x) : (l.take (i + 1)).sum = (l.take i).sum + x := by
  obtain ⟨hl, he⟩ := List.getElem?_eq_some_iff.1 h
  rw [← List.take_append_getElem hl, he, List.sum_append]
  simp
theorem rev_at {l : List Nat} {i j n y : Nat} (hn : l.length = n) (hi : i < n) (hj : n - 1 - i = j) (h : l[j]? = some y) : l.reverse[i]? = some y := by
  rw [List.getElem?_reverse (by omega), hn, hj]; exact h
theorem sum_rev (l : List Nat) : l.reverse.sum = l.sum := by
  induction l with
  | nil => rfl
  | cons x l ih => rw [List.reverse_cons, List.sum_append, ih, List.sum_cons]; simp; omega
theorem ck_sum {xs ys : List UInt8} (h : wsum false xs = wsum false ys) : ckOf xs = ckOf ys := by unfold ckOf rsumOf; rw [h]

/-- Two slices of the call's own, in blocks of their own. -/
def Two (w : World) (base : Nat) (v u : Value) (xs ys : List UInt8) : Prop := Own8 w base v xs ∧ Own8 w base u ys ∧ Apart v u
theorem Two.left {w w' : World} {base : Nat} {v u v' : Value} {xs ys xs' : List UInt8} {o : Obj} (h : Two w base v u xs ys) (ho : Own8 w' base v' xs') (hg : (w.alloc o).grownBy w' v.ownBlock) (hv : v'.ownBlock = v.ownBlock ∨ v'.ownBlock = some (w.alloc o).heap.size) : Two w' base v' u xs' ys :=
  ⟨ho, (h.2.1.alloc o).kept hg h.2.2.sym, (h.2.2.sym.more (h.2.1.alloc o) (Nat.le_refl _) hv).sym⟩
theorem Two.sym {w : World} {base : Nat} {v u : Value} {xs ys : List UInt8} (h : Two w base v u xs ys) : Two w base u v ys xs := ⟨h.2.1, h.1, h.2.2.sym⟩
theorem Two.right {w w' : World} {base : Nat} {v u u' : Value} {xs ys ys' : List UInt8} {o : Obj} (h : Two w base v u xs ys) (ho : Own8 w' base u' ys') (hg : (w.alloc o).grownBy w' u.ownBlock) (hv : u'.ownBlock = u.ownBlock ∨ u'.ownBlock = some (w.alloc o).heap.size) : Two w' base v u' xs ys' := (h.sym.left ho hg hv).sym

theorem sum_now (W : World) (cs : List Value) (l : List (List UInt8)) (h : CellsAt W W.heap.size cs l) (n cap : Nat) (hn : cs.length = n) (hn2 : n ≤ 1000) (hlen : l.flatten.length ≤ 1000000) (c : Nat) (hc : ckOf l.flatten = c) :
    Calls Try.prog 10 #[.slice (some ⟨W.heap.size, 0, none⟩) n cap] (W.alloc (.cells cs.toArray 22)) fun e W' => e = .returned (.int .u16 (c : Int)) ∧ W.alloc (.cells cs.toArray 22) = W' :=
  sum_row W cs l h n cap hn hn2 hlen c hc 0
theorem one_sum {W : World} {A : Option Addr} {len cap c : Nat} {xs : List UInt8} (h : Rd W W.heap.size A len xs) (hcap : len ≤ cap) (hcm : cap ≤ maxLen) (hlen : len ≤ 1000) (hc : ckOf xs = c) :
    Calls Try.prog 10 #[.slice (some ⟨W.heap.size, 0, none⟩) 1 1] (W.alloc (.cells #[.slice A len cap] 22)) fun e W' => e = .returned (.int .u16 (c : Int)) ∧ W.alloc (.cells #[.slice A len cap] 22) = W' := by
  have hf : ([xs] : List (List UInt8)).flatten = xs := by simp
  exact sum_now W [.slice A len cap] _ (CellsAt.one h hcap hcm) 1 1 rfl (by omega) (by rw [hf, h.len]; omega) c (by rw [hf]; exact hc)


set_option maxRecDepth 100000 in
set_option maxHeartbeats 4000000 in
theorem inetOrder_walk (A : Option Addr) (len cap : Nat) (xs : List Nat) (_ : len ≤ cap) (_ : cap ≤ maxLen) (at_ : Nat) (hat : at_ < 256) (w : World) (hI : RdU w w.heap.size A len xs) :
    Calls Try.prog 4 #[.slice A len cap, .int .u8 (at_ : Int)] w fun e W' => e = .returned (.bool true) ∧ Below w.heap.size w W' := by
  by_cases h1 : 300 < len
  · have h1' : (300 : Int) < (len : Int) := by omega
    go_enter Try.func4, Try.ntmps4
    go_wp2_with fail
    refine (awake_any _).mono ?_
    rintro e w1 ⟨rfl, hb1⟩
    go_wp2_with fail
    refine (awake_any _).mono ?_
    rintro e w2 ⟨rfl, hb2⟩
    go_wp2_with fail
    go_ret
    exact ⟨rfl, hb1.trans (hb2.mono hb1.size)⟩
  · have h1' : (len : Int) ≤ 300 := by omega
    have hk0 : ¬ (len : Int) + 1 = 0 := by omega
    have HL := Lib.hid hI.1
    have HX := Lib.hid hI.2.1
    go_enter Try.func4, Try.ntmps4
    go_wp2_with fail
    refine (awake_any _).mono ?_
    rintro e w1 ⟨rfl, hb1⟩
    have z1 := hb1.size
    have hI1 := hI.below hb1
    clear hI
    go_wp2_with fail
    obtain ⟨k, hk⟩ : ∃ k : Nat, (at_ : Int) % ((len : Int) + 1) = (k : Int) := ⟨at_ % (len + 1), by rw [Int.natCast_emod, Int.natCast_add]; rfl⟩
    rw [hk]
    clear hk hk0
    go_loopw [5, 6, 8] (fun v u i wr => ∃ (j : Nat) (pa pb : List UInt8), j ≤ len ∧ i = .int .i64 (j : Int) ∧ Two wr w1.heap.size v u pa pb ∧ Below w1.heap.size w1 wr ∧ pa.length = 2 * j ∧ wsum false pa = (xs.take j).sum ∧ pb.length ≤ 2 * j + 2 ∧ pb.length % 2 = 0 ∧ (j ≤ k → pb.length = 2 * j) ∧ wsum false pb = (xs.reverse.take j).sum)
      (fun _ _ i _ => len - (intOf i).toNat)
    case atStart => exact ⟨0, [], [], by omega, rfl, ⟨Own8.nil_ _ _, Own8.nil_ _ _, .inl rfl⟩, Below.refl _ _, rfl, by simp [wsum], by simp, rfl, fun _ => rfl, by simp [wsum]⟩
    case round =>
      obtain ⟨j, pa, pb, hj, rfl, htwo, hbel, hal, has, hbl, hbe, hbk, hbs⟩ := hrel
      have hsz := hbel.size
      have hr := hI1.below (hbel.mono z1)
      by_cases hlt : j < len
      · have hlt' : (j : Int) < (len : Int) := by omega
        obtain ⟨b, off, rfl, hb, hcs⟩ := hr.2.2 (by omega)
        obtain ⟨m, hm⟩ : ∃ m, len - 1 - j = m := ⟨_, rfl⟩
        have hml : m < len := by omega
        have hmi : (len : Int) - 1 - (j : Int) = (m : Int) := by omega
        obtain ⟨x, hx⟩ : ∃ x, xs[j]? = some x := ⟨_, List.getElem?_eq_getElem (by rw [HL.out]; exact hlt)⟩
        obtain ⟨y, hy⟩ : ∃ y, xs[m]? = some y := ⟨_, List.getElem?_eq_getElem (by rw [HL.out]; exact hml)⟩
        have hcx := hcs j x hx
        have hcy := hcs m y hy
        have hxl := HX.out x (List.mem_of_getElem? hx)
        have hyl := HX.out y (List.mem_of_getElem? hy)
        have hsx := take_sum hx
        have hsy := take_sum (rev_at HL.out hlt hm hy)
        have tx := word_bytes x hxl
        have ty := word_bytes y hyl
        have wx := wsum_word pa (by omega) x hxl
        have HSX := Lib.hid hsx
        have HSY := Lib.hid hsy
        have HA := Lib.hid has
        have HBs := Lib.hid hbs
        have HAL := Lib.hid hal
        have HBL := Lib.hid hbl
        have HBE := Lib.hid hbe
        have HBK := Lib.hid hbk
        have HTX := Lib.hid tx
        have HTY := Lib.hid ty
        have HWX := Lib.hid wx
        clear hsx hsy has hbs hal hbl hbe hbk tx ty wx hm hx hy hcs hr
        by_cases hjk : j = k
        · have e1 : ((j : Int) == (k : Int)) = true := beq_iff_eq.2 (by omega)
          have e2 : (j == k) = true := beq_iff_eq.2 hjk
          have HJK := Lib.hid hjk
          clear hjk
          go_wp2_with (first
            | (at_builtin; have rd48 : Rd (wr.alloc (.cells #[.int .u8 0, .int .u8 0] 5)) (wr.heap.size + 1) (some ⟨wr.heap.size, 0, none⟩) 2 [0, 0] := Rd.laid wr [0, 0] 2 rfl; refine wpList_append8 (o := ⟨some 48, _, _, _, _, _⟩) rfl _ _ rfl w1.heap.size _ _ (by rfl) (htwo.2.1.alloc _) _ _ _ _ _ (by rfl) rd48 (by have := HAL.out; have := HBL.out; simp; omega) (by have := hbel.size; simp; omega) ?_; intro v2 w2 ho48 hg48 hv48; have htwo2 := htwo.right ho48 hg48 hv48; have hb2 := (hbel.alloc hbel.size (.cells #[.int .u8 0, .int .u8 0] 5)).grown hg48 (by have := hbel.size; simp; omega) htwo.2.1.lt)
            | (at_builtin; have rd56 := Rd.laid w2 [UInt8.ofNat (x / 256), UInt8.ofNat (x % 256)] 2 rfl; rw [HTX.out] at rd56; refine wpList_append8 (o := ⟨some 56, _, _, _, _, _⟩) rfl _ _ rfl w1.heap.size _ _ (by rfl) (htwo2.1.alloc _) _ _ _ _ _ (by rfl) rd56 (by have := HAL.out; have := HBL.out; simp; omega) (by have := hb2.size; simp; omega) ?_; intro v3 w3 ho56 hg56 hv56; have htwo3 := htwo2.left ho56 hg56 hv56; have hb3 := (hb2.alloc hb2.size (.cells #[.int .u8 ((x : Int) / 256), .int .u8 ((x : Int) % 256)] 5)).grown hg56 (by have := hb2.size; simp; omega) htwo2.1.lt)
            | (at_builtin; have rd64 := Rd.laid w3 [UInt8.ofNat (y / 256), UInt8.ofNat (y % 256)] 2 rfl; rw [HTY.out] at rd64; refine wpList_append8 (o := ⟨some 64, _, _, _, _, _⟩) rfl _ _ rfl w1.heap.size _ _ (by rfl) (htwo3.2.1.alloc _) _ _ _ _ _ (by rfl) rd64 (by have := HAL.out; have := HBL.out; simp; omega) (by have := hb3.size; simp; omega) ?_; intro v4 w4 ho64 hg64 hv64; have htwo4 := htwo3.right ho64 hg64 hv64; have hb4 := (hb3.alloc hb3.size (.cells #[.int .u8 ((y : Int) / 256), .int .u8 ((y : Int) % 256)] 5)).grown hg64 (by have := hb3.size; simp; omega) htwo3.2.1.lt))
          go_roundw
          case rel =>
            have l1 := HBK.out (Nat.le_of_eq HJK.out)
            refine ⟨j + 1, _, _, by omega, by go_num, htwo4, hb4, by rw [List.length_append, HAL.out]; simp; omega, by rw [HWX.out, HA.out, HSX.out], by rw [List.length_append, List.length_append, l1]; simp; omega, by rw [List.length_append, List.length_append, l1]; simp, fun h => absurd h (by have := HJK.out; omega), ?_⟩
            rw [wsum_word _ (by rw [List.length_append, l1]; simp) y hyl, wsum_zeros _ HBE.out, HBs.out, HSY.out]
          case measure => simp [intOf]; omega
        · have e1 : ((j : Int) == (k : Int)) = false := beq_eq_false_iff_ne.2 (by omega)
          have e2 : (j == k) = false := beq_eq_false_iff_ne.2 hjk
          have HJK := Lib.hid hjk
          clear hjk
          go_wp2_with (first
            | (at_builtin; have rd56 := Rd.laid wr [UInt8.ofNat (x / 256), UInt8.ofNat (x % 256)] 2 rfl; rw [HTX.out] at rd56; refine wpList_append8 (o := ⟨some 56, _, _, _, _, _⟩) rfl _ _ rfl w1.heap.size _ _ (by rfl) (htwo.1.alloc _) _ _ _ _ _ (by rfl) rd56 (by have := HAL.out; have := HBL.out; simp; omega) (by have := hbel.size; simp; omega) ?_; intro v3 w3 ho56 hg56 hv56; have htwo3 := htwo.left ho56 hg56 hv56; have hb3 := (hbel.alloc hbel.size (.cells #[.int .u8 ((x : Int) / 256), .int .u8 ((x : Int) % 256)] 5)).grown hg56 (by have := hbel.size; simp; omega) htwo.1.lt)
            | (at_builtin; have rd64 := Rd.laid w3 [UInt8.ofNat (y / 256), UInt8.ofNat (y % 256)] 2 rfl; rw [HTY.out] at rd64; refine wpList_append8 (o := ⟨some 64, _, _, _, _, _⟩) rfl _ _ rfl w1.heap.size _ _ (by rfl) (htwo3.2.1.alloc _) _ _ _ _ _ (by rfl) rd64 (by have := HAL.out; have := HBL.out; simp; omega) (by have := hb3.size; simp; omega) ?_; intro v4 w4 ho64 hg64 hv64; have htwo4 := htwo3.right ho64 hg64 hv64; have hb4 := (hb3.alloc hb3.size (.cells #[.int .u8 ((y : Int) / 256), .int .u8 ((y : Int) % 256)] 5)).grown hg64 (by have := hb3.size; simp; omega) htwo3.2.1.lt))
          go_roundw
          case rel =>
            refine ⟨j + 1, _, _, by omega, by go_num, htwo4, hb4, by rw [List.length_append, HAL.out]; simp; omega, by rw [HWX.out, HA.out, HSX.out], by have := HBL.out; rw [List.length_append]; simp; omega, by have := HBE.out; rw [List.length_append]; simp; omega, fun h => by rw [List.length_append, HBK.out (by omega)]; simp; omega, ?_⟩
            rw [wsum_word _ HBE.out y hyl, HBs.out, HSY.out]
          case measure => simp [intOf]; omega
      · have hlt' : ¬ (j : Int) < (len : Int) := by omega
        obtain rfl : j = len := by omega
        rw [List.take_of_length_le (by rw [HL.out]; exact Nat.le_refl _)] at has
        rw [List.take_of_length_le (by rw [List.length_reverse, HL.out]; exact Nat.le_refl _), sum_rev] at hbs
        have hck : ckOf pb = ckOf pa := ck_sum (hbs.trans has.symm)
        obtain ⟨c, hc⟩ : ∃ c, ckOf pa = c := ⟨_, rfl⟩
        rw [hc] at hck
        obtain ⟨Aa, ca, rfl, hca, hcma, hra⟩ := htwo.1.form rfl
        obtain ⟨Ab, cb, rfl, hcb, hcmb, hrb⟩ := htwo.2.1.form rfl
        have p1 := one_sum hra hca hcma (by omega) hc
        have p2 := fun (W : World) (h : Below wr.heap.size wr W) => one_sum ((hrb.below h).more h.size) hcb hcmb (by omega) hck
        have e1 : ((c : Int) == (c : Int)) = true := by simp
        have P1 := Lib.hid p1
        have P2 := Lib.hid p2
        have hal2 : pa.length ≤ 1000 := by omega
        have hbl2 : pb.length ≤ 1000 := by omega
        obtain ⟨na, hna⟩ : ∃ na, pa.length = na := ⟨_, rfl⟩
        obtain ⟨nb, hnb⟩ : ∃ nb, pb.length = nb := ⟨_, rfl⟩
        rw [hna] at P1 ⊢
        rw [hnb] at P2 ⊢
        clear p1 p2 hck hc has hbs hra hrb htwo hal hbl hbe hbk hr hna hnb hal2 hbl2 hca hcb
        go_wp2_with fail
        refine P1.out.mono ?_
        rintro e w9 ⟨rfl, hw9⟩
        have B9 : Below wr.heap.size wr w9 := by rw [← hw9]; exact (Below.refl _ _).alloc (Nat.le_refl _) _
        clear hw9
        go_wp2_with fail
        refine (P2.out _ B9).mono ?_
        rintro e w10 ⟨rfl, hw10⟩
        have B10 : Below wr.heap.size wr w10 := by rw [← hw10]; exact B9.alloc B9.size _
        clear hw10
        go_wp2_with fail
        go_ret
        exact ⟨rfl, hb1.trans ((hbel.trans (B10.mono hsz)).mono z1)⟩

theorem inetOrder_walks : WalksTrue 4 Try.f4 := by
  intro H enc W base args ds p hval hA
  rw [Try.params4] at hA hval
  obtain ⟨v0, vs0, d0, ds0, p0, q0, hargs, rfl, rfl, h0, r0⟩ := trodAll_cons hA
  obtain ⟨v1, vs1, d1, ds1, p1, q1, rfl, rfl, rfl, h1, r1⟩ := trodAll_cons r0
  obtain ⟨rfl, rfl, rfl⟩ := trodAll_nil r1
  obtain rfl : args = #[v0, v1] := by cases args; simp_all
  obtain ⟨A0, len0, cap0, xs0, rfl, hc0, hm0, hI0⟩ := open_u16s (hval 0 30 v0 rfl rfl) h0
  obtain ⟨a1, rfl, rfl, rfl, w1⟩ := open_int Try.underlying5 (hval 1 5 v1 rfl rfl) h1
  obtain ⟨g1a, g1b⟩ := range_u8 w1
  obtain ⟨n1, rfl⟩ := Int.eq_ofNat_of_zero_le g1a
  exact inetOrder_walk A0 len0 cap0 xs0 hc0 hm0 n1 (by omega) W hI0

theorem inetOrder_said : Rows.InetOrderSaid :=
  OpenClaim.holds_of_wide 4 Try.f4 rfl rfl rfl rfl rfl rfl rfl ⟨rfl, rfl, rfl, rfl, rfl⟩ rfl rfl rfl rfl rfl (by kernel_rfl) Try.func4 (by kernel_rfl)
    (of_decide_eq_true (by kernel_rfl)) (by unfold Func.isWrapper; first | (rw [if_pos (by decide +kernel)]; kernel_rfl) | (rw [if_neg (by decide +kernel)]; exact ⟨rfl, rfl⟩))
    (fun os started H enc _ => law_lift (s := Rows.inetOrderSpec) Try.func4 (by kernel_rfl) rfl rfl (by intro H ds hd; match ds, hd with | [_, _], _ => exact ⟨rfl, rfl, rfl⟩) (by kernel_rfl) inetOrder_walks os started H enc
      (ChangeSpec.witness6 (enc := enc) (C := Try.checked) false ⟨#[], #[.slice none 0 0, .int .u8 0], []⟩ 8 (by kernel_rfl) (by kernel_rfl) (by kernel_rfl) (by kernel_rfl)))

end Go.Proofs.Ytdfjdkbnbiglnaa
