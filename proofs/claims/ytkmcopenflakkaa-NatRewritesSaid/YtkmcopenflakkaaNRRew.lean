/-
  The document's Rewrite.
-/
import Derived.Test.YtkmcopenflakkaaNROf
import Derived.Deep.DeepCutAuto
namespace Go.Proofs.Ytkmcopenflakkaa
set_option maxRecDepth 100000
open Go.RowKit Go.Lib

/-- What the document's Rewrite answers. -/
def RewGave (w : World) (xs : List UInt8) (a : Ad) (m : Int) (dst : Bool) (e : Ending) (w' : World) : Prop :=
  (mayN (readK xs) a m = false → e = .returned (.tuple #[.slice none 0 0, .bool false])) ∧
  (mayN (readK xs) a m = true → ∃ v, e = .returned (.tuple #[v, .bool true]) ∧ Own8 w' w.heap.size v (natL xs a m dst)) ∧ Below w.heap.size w w'
theorem ob_some {g n c : Nat} : (Value.slice (some ⟨g, 0, none⟩) n c).ownBlock = some g := rfl
/-- What a younger slice grows by is not an older one's block. -/
theorem young_off {w : World} {B : Nat} {u v : Value} {ys : List UInt8} (hu : ∀ g, u.ownBlock = some g → g < B) (hv : Own8 w B v ys) : u.ownBlock = none ∨ u.ownBlock ≠ v.ownBlock := by
  cases h : u.ownBlock with
  | none => exact .inl rfl
  | some g => exact .inr (fun e => by have h1 := hu g h; have h2 := hv.lt g e.symm; omega)
theorem rd_off {w w' : World} {B n : Nat} {A : Option Addr} {xs : List UInt8} (h : Rd w B A n xs) (hb : Below B w w') : Rd w' B A n xs := h.below hb
theorem rew_order4 (z : List UInt8) {ad pt hd ck : Nat} {new a b c : List UInt8} (h1 : hd + a.length ≤ ad) (h2 : ad + new.length ≤ pt) (h3 : pt + b.length ≤ ck) :
    setL (setL (setL (setL z ad new) pt b) hd a) ck c = setL (setL (setL (setL z hd a) ck c) ad new) pt b := by
  rw [← setL_comm (setL z ad new) (k := hd) (j := pt) (by omega), ← setL_comm z (k := hd) (j := ad) (by omega), setL_comm _ (k := pt) (j := ck) h3, setL_comm _ (k := ad) (j := ck) (by omega)]
theorem rew_order6 (z : List UInt8) {ad pt ck : Nat} {new b c : List UInt8} (h2 : ad + new.length ≤ pt) (h3 : pt + b.length ≤ ck) :
    setL (setL (setL z ad new) pt b) ck c = setL (setL (setL z ck c) ad new) pt b := by
  rw [setL_comm _ (k := pt) (j := ck) h3, setL_comm _ (k := ad) (j := ck) (by omega)]
/-- What the call's own slices and boxes hold: what is new, what was there; the packet, the address. -/
structure KS (w : World) (B5 b4 : Nat) (vF vD : Value) (new olds : List UInt8) (G : Nat) (k : Pk) (a : Ad) (W : World) : Prop where
  f : Own8 W B5 vF new
  d : Own8 W b4 vD olds
  p : Blk W 37 G (pkL k)
  q : Blk W 25 w.heap.size (adL a)
  b : Below w.heap.size w W
  s : B5 ≤ W.heap.size
theorem cut_two {goal : Prop} {H : World → Prop} {M : World → Nat → Nat → Prop} (h1 : (∀ W a b, H W → M W a b) → goal) (h2 : ∀ W a b, H W → M W a b) : goal := h1 h2
section
variable {w W W' : World} {B5 b4 G g : Nat} {vF vD : Value} {new olds : List UInt8} {k : Pk} {a : Ad}
theorem KS.gb (h : KS w B5 b4 vF vD new olds G k a W) (hg : W.grownBy W' (some g)) (c1 : g < B5) (c2 : g < b4) (c3 : G < g) (c4 : w.heap.size < g) : KS w B5 b4 vF vD new olds G k a W' := by
  have hb := gb_to_below hg (Nat.le_refl g) (Nat.le_trans (Nat.le_of_lt c1) h.s)
  exact ⟨own_kept h.f hg c1, own_kept h.d hg c2, h.p.below c3 hb, h.q.below c4 hb, h.b.trans (hb.mono (Nat.le_of_lt c4)), Nat.le_trans h.s hg.size⟩
theorem KS.below (h : KS w B5 b4 vF vD new olds G k a W) (hb : Below W.heap.size W W') : KS w B5 b4 vF vD new olds G k a W' :=
  ⟨h.f.below hb, h.d.below hb, h.p.below h.p.lt hb, h.q.below h.q.lt hb, h.b.trans (hb.mono h.b.size), Nat.le_trans h.s hb.size⟩
end

set_option maxHeartbeats 8000000 in
theorem rrew_no {a : Ad} (ha : a.b.length = 16) {m : Int} {A : Option Addr} {len cap : Nat} {xs : List UInt8} (hlen : len ≤ 10000) (hcap : len ≤ cap) (dst : Bool) (hmay : mayN (readK xs) a m = false) (w : World) (hI : Rd w w.heap.size A len xs) :
    Calls Try.prog 12 #[.slice A len cap, adC a, .int .i64 m, .bool dst] w fun e w' => e = .returned (.tuple #[.slice none 0 0, .bool false]) ∧ Below w.heap.size w w' := by
  obtain ⟨Y, hY, hq, hbel⟩ := box_ad w a
  have HXL := Lib.hid hI.len
  have HRF := Lib.hid (fun W (hB : Below w.heap.size w W) => (hI.below hB).more hB.size)
  have HRD := Lib.hid (kread_any A len cap xs (by omega) hcap Y ((hI.below hbel).more hbel.size))
  have HOK := Lib.hid (readK_ok xs)
  have HK0 := Lib.hid hmay
  obtain ⟨k, hk⟩ : ∃ k, readK xs = k := ⟨_, rfl⟩
  have HK := Lib.hid hk
  rw [hk] at HRD HOK
  have HOF := Lib.hid (fun W => rof_any ha k.t.s.six W)
  have HAL := Lib.hid ha
  have E1 := Lib.hid (show adC a = .agg (adL a).toArray from rfl)
  rw [E1.out]
  rw [E1.out] at HOF
  obtain ⟨C1, hC1⟩ : ∃ C, (adL a).toArray = C := ⟨_, rfl⟩
  rw [hC1] at hY HOF
  rw [hC1]
  have HC1 := Lib.hid hC1
  have HY := Lib.hid hY
  have HQ := Lib.hid hq
  have HB := Lib.hid hbel
  have HMN : Hid ((decide (k.kind = 0) && (ofB k.t.s.six a && decide (0 ≤ m ∧ m ≤ 65535))) = false) := Lib.hid (hk ▸ hmay)
  obtain ⟨kd, hkd⟩ : ∃ z, k.kind = z := ⟨_, rfl⟩
  obtain ⟨b, hb⟩ : ∃ b, ofB k.t.s.six a = b := ⟨_, rfl⟩
  rw [hb] at HOF HMN
  rw [hkd] at HMN
  have HKD := Lib.hid hkd
  obtain ⟨sx, hsx⟩ : ∃ s, k.t.s.six = s := ⟨_, rfl⟩
  have HSX := Lib.hid hsx
  rw [hsx] at HOF
  clear hY hq hbel hk ha hC1 hI hmay hkd hb hsx
  go_enter Try.func12, Try.ntmps12
  go_wp2_with fail
  rw [HY.out]
  refine HRD.out.mono ?_
  rintro e w1 ⟨rfl, hb1⟩
  have HB1 := Lib.hid (HB.out.trans (hb1.mono HB.out.size))
  have HQ1 := Lib.hid (HQ.out.below HQ.out.lt hb1)
  clear hb1
  by_cases h0 : kd = 0
  · have h0' := Lib.hid h0
    subst h0
    go_wp2_with (first
      | ((with_reducible show wpList _ _ _ (⟨none, .store 37 (.tmp 10) _, _, _, _, _⟩ :: _) _ _); refine wpList_storePk rfl (.tmp 10) _ rfl (by rfl) k HOK.out (by rfl) (by rfl) ?_; intro w2 hp2 hb2; have HP2 := Lib.hid hp2; have HB2 := Lib.hid (HB1.out.trans (hb2.mono HB1.out.size)); have HQ2 := Lib.hid (HQ1.out.below HQ1.out.lt hb2); have HGW : Hid (w.heap.size < w1.heap.size) := Lib.hid HQ1.out.lt; clear hp2 hb2; generalize w1.heap.size = G at HP2 HGW ⊢; have c0 := (pk_cells HP2.out HOK.out).1; have c1 : w2.cell? ⟨G, 1, none⟩ = some (.bool k.t.s.six) := Blk_10.cell HP2.out rfl; rw [HKD.out] at c0; rw [HSX.out] at c1)
      | ((with_reducible show wpList _ _ _ (⟨some 34, _, _, _, _, _⟩ :: _) _ _); refine wpList_loadM (op := ⟨some 34, _, _, _, _, _⟩) 25 _ rfl (by rfl) w.heap.size 0 (by rfl) (adL a) (Blk_10.range HQ2.out) _ Try.underlying25 rfl (sizeAdL HAL.out) ?_; rw [HC1.out]))
    refine (HOF.out _).mono ?_
    rintro e w3 ⟨rfl, hb3⟩
    have HB3 := Lib.hid (HB2.out.trans (hb3.mono HB2.out.size))
    clear hb3 c0 c1
    cases b with
    | false =>
      go_wp2_with fail
      go_ret2
      exact ⟨rfl, HB3.out⟩
    | true =>
      have hm : ¬ (0 ≤ m ∧ m ≤ 65535) := by
        have := HMN.out
        simpa using this
      by_cases h1 : m < 0
      · have b1 : decide (m < 0) = true := decide_eq_true h1
        clear hm
        go_wp2_with fail
        go_ret2
        exact ⟨rfl, HB3.out⟩
      · have b1 : decide (m < 0) = false := decide_eq_false h1
        have h2 : 65535 < m := by omega
        have b2 : decide (65535 < m) = true := decide_eq_true h2
        clear hm
        go_wp2_with fail
        go_ret2
        exact ⟨rfl, HB3.out⟩
  · have b0 : (kd != 0) = true := by simp [h0]
    go_wp2_with (((with_reducible show wpList _ _ _ (⟨none, .store 37 (.tmp 10) _, _, _, _, _⟩ :: _) _ _); refine wpList_storePk rfl (.tmp 10) _ rfl (by rfl) k HOK.out (by rfl) (by rfl) ?_; intro w2 hp2 hb2; have HP2 := Lib.hid hp2; have HB2 := Lib.hid (HB1.out.trans (hb2.mono HB1.out.size)); have HQ2 := Lib.hid (HQ1.out.below HQ1.out.lt hb2); have HGW : Hid (w.heap.size < w1.heap.size) := Lib.hid HQ1.out.lt; clear hp2 hb2; generalize w1.heap.size = G at HP2 HGW ⊢; have c0 := (pk_cells HP2.out HOK.out).1; have c1 : w2.cell? ⟨G, 1, none⟩ = some (.bool k.t.s.six) := Blk_10.cell HP2.out rfl; rw [HKD.out] at c0; rw [HSX.out] at c1))
    go_ret2
    exact ⟨rfl, HB2.out⟩

set_option maxHeartbeats 40000000 in
theorem rrew_4 {a : Ad} (ha : a.b.length = 16) {m : Int} {A : Option Addr} {len cap : Nat} {xs : List UInt8} (hlen : len ≤ 10000) (hcap : len ≤ cap) (dst : Bool) (hmay : mayN (readK xs) a m = true) {z : List UInt8} {n : Nt} {p : Nat} {u : Bool} (hA : AtF xs z false n p u) (w : World) (hI : Rd w w.heap.size A len xs) :
    Calls Try.prog 12 #[.slice A len cap, adC a, .int .i64 m, .bool dst] w fun e w' => ∃ v, e = .returned (.tuple #[v, .bool true]) ∧ Own8 w' w.heap.size v (natL xs a m dst) ∧ Below w.heap.size w w' := by
  obtain ⟨Y, hY, hq, hbel⟩ := box_ad w a
  have HXL := Lib.hid hI.len
  have HRF := Lib.hid (fun W (hB : Below w.heap.size w W) => (hI.below hB).more hB.size)
  have HRD := Lib.hid (kread_any A len cap xs (by omega) hcap Y ((hI.below hbel).more hbel.size))
  have HOK := Lib.hid (readK_ok xs)
  have HK0 := Lib.hid hmay
  obtain ⟨k, hk⟩ : ∃ k, readK xs = k := ⟨_, rfl⟩
  have HK := Lib.hid hk
  rw [hk] at HRD HOK
  have HOF := Lib.hid (fun W => rof_any ha k.t.s.six W)
  have HAL := Lib.hid ha
  have E1 := Lib.hid (show adC a = .agg (adL a).toArray from rfl)
  rw [E1.out]
  rw [E1.out] at HOF
  obtain ⟨C1, hC1⟩ : ∃ C, (adL a).toArray = C := ⟨_, rfl⟩
  rw [hC1] at hY HOF
  rw [hC1]
  have HC1 := Lib.hid hC1
  have HY := Lib.hid hY
  have HQ := Lib.hid hq
  have HB := Lib.hid hbel
  obtain ⟨hk0, hof, m0, m1⟩ := mayN_yes hmay
  obtain ⟨k1, k2, k3, k4, k5, k6, k7, k8, k9, _⟩ := hA.en
  have hbd := hA.f.bnd
  have hbx := hA.x
  have hok := hbd.ok dst
  have h0' := hbd.h0
  have hnat := hA.nat a m dst
  have hzl := hA.l
  have hzt := hA.zt
  rw [hk] at k1 k2 k3 k4 k5 k6 k9 hof hk0
  rw [k4] at hof HOF
  rw [hof] at HOF
  have hTL : p + n.total ≤ len := by rw [← HXL.out]; exact hbx
  obtain ⟨mn, hmn⟩ : ∃ q : Nat, m = (q : Int) := ⟨m.toNat, by omega⟩
  subst hmn
  rw [Int.toNat_natCast] at hnat
  have hml : mn < 65536 := by omega
  obtain ⟨ad, had⟩ : ∃ x, p + 12 + (if dst = true then 4 else 0) = x := ⟨_, rfl⟩
  obtain ⟨s0, hs0⟩ : ∃ x, p + n.head = x := ⟨_, rfl⟩
  obtain ⟨pt, hpt⟩ : ∃ x, s0 + poD dst = x := ⟨_, rfl⟩
  obtain ⟨ck, hck⟩ : ∃ x, s0 + plc u = x := ⟨_, rfl⟩
  have hsp : p + 20 ≤ s0 ∧ s0 ≤ pt := by
    have := hbd.h0
    refine ⟨by rw [← hs0]; rw [if_neg (by decide)] at this; omega, by omega⟩
  obtain ⟨E, hE⟩ : ∃ x, p + n.total = x := ⟨_, rfl⟩
  obtain ⟨kk, hkk⟩ : ∃ x, p + 10 = x := ⟨_, rfl⟩
  have hpl : plF false n p u dst = (⟨ad, pt, kk, ck, u⟩ : Pl) := by
    rw [← had, ← hpt, ← hck, ← hs0, ← hkk]
    rfl
  rw [hpl] at hnat hok
  rw [hE] at hok k1 hTL hzl
  rw [hs0] at k2
  have q2 : ad + 4 ≤ pt := hok.a
  have q3 : pt + 2 ≤ ck := hok.p
  have q4 : ck + 2 ≤ E := hok.k
  have hpc : plc u ≤ 16 := by cases u <;> decide
  have hpl0 : plcI (prN u : Nat) = plc u := by cases u <;> rfl
  obtain ⟨new, hnw⟩ : ∃ x, newB false a = x := ⟨_, rfl⟩
  have hnw2 : a.b.take 4 = new := hnw
  have hnl : new.length = 4 := by rw [← hnw]; exact newB_len ha false
  rw [hnw] at hnat
  obtain ⟨olds, hol⟩ : ∃ x, (z.drop ad).take 4 = x := ⟨_, rfl⟩
  obtain ⟨oldp, hop⟩ : ∃ x, (z.drop pt).take 2 = x := ⟨_, rfl⟩
  have hll : olds.length = 4 := by rw [← hol]; exact part_len (by omega)
  have hlp : oldp.length = 2 := by rw [← hop]; exact part_len (by omega)
  have hwc := wat_lt z ck
  obtain ⟨wc, hwce⟩ : ∃ x, wat z ck = x := ⟨_, rfl⟩
  rw [hwce] at hwc
  have hwh := wat_lt z kk
  obtain ⟨wh, hwhe⟩ : ∃ x, wat z kk = x := ⟨_, rfl⟩
  rw [hwhe] at hwh
  have hLH : changedOf wh olds new ≤ 65535 := ch_le (by omega) (by rw [hnl, hll])
  obtain ⟨H, hH⟩ : ∃ x, changedOf wh olds new = x := ⟨_, rfl⟩
  rw [hH] at hLH
  have hL1 : changedOf wc olds new ≤ 65535 := ch_le (by omega) (by rw [hnl, hll])
  obtain ⟨s1, hs1⟩ : ∃ x, changedOf wc olds new = x := ⟨_, rfl⟩
  rw [hs1] at hL1
  have hL2 : changedOf s1 oldp (be2 mn) ≤ 65535 := ch_le hL1 (by rw [be2_len, hlp])
  obtain ⟨s2, hs2⟩ : ∃ x, changedOf s1 oldp (be2 mn) = x := ⟨_, rfl⟩
  rw [hs2] at hL2
  obtain ⟨Z1, hZ1⟩ : ∃ x, setL z ad new = x := ⟨_, rfl⟩
  obtain ⟨Z2, hZ2⟩ : ∃ x, setL Z1 pt (be2 mn) = x := ⟨_, rfl⟩
  obtain ⟨Z3, hZ3⟩ : ∃ x, setL Z2 kk (be2 H) = x := ⟨_, rfl⟩
  have z1l : Z1.length = E := by rw [← hZ1, setL_len]; exact hzl
  have z2l : Z2.length = E := by rw [← hZ2, setL_len]; exact z1l
  have z3l : Z3.length = E := by rw [← hZ3]; rw [setL_len]; exact z2l
  have hkk2 : kk + 2 ≤ ad := by omega
  have hwk2 : wat Z2 kk = wh := by rw [← hZ2, setL_wne (by omega), ← hZ1, setL_wne (by omega)]; exact hwhe
  have hwc3 : wat Z3 ck = wc := by
    rw [← hZ3, setL_wne (by rw [be2_len]; omega), ← hZ2, setL_wne (by rw [be2_len]; omega), ← hZ1, setL_wne (by omega)]
    exact hwce
  have hfin : ∀ S, numW u wc olds new oldp (be2 mn) = S → setL Z3 ck (be2 S) = natL xs a (mn : Int) dst := by
    intro S hS
    rw [hnat]
    unfold rewL headL
    rw [hnl, hol, hop, hwce, hS, if_pos (show 0 < kk by omega), hwhe, hH, ← hZ3, ← hZ2, ← hZ1]
    exact rew_order4 z (by rw [be2_len]; omega) (by omega) (by rw [be2_len]; omega)
  have hidle : u = true ∧ wc = 0 → Z3 = natL xs a (mn : Int) dst := by
    intro h
    have e := hfin 0 (numW_idle h)
    have e2 : be2 (wat Z3 ck) = be2 0 := by rw [hwc3, h.2]
    rw [← e, ← e2]
    exact (setL_two Z3 ck (by rw [z3l]; omega)).symm
  have hnid : ¬ (u = true ∧ wc = 0) → ∀ S, numS u s2 = S → setL Z3 ck (be2 S) = natL xs a (mn : Int) dst := by
    intro h S hS
    apply hfin
    unfold numW
    rw [if_neg h, hs1, hs2, hS]
  have HIDLE := Lib.hid hidle
  have HNID := Lib.hid hnid
  have HZL := Lib.hid hzl
  have Z1L := Lib.hid z1l
  have Z2L := Lib.hid z2l
  have Z3L := Lib.hid z3l
  have HNL := Lib.hid hnl
  have OPL := Lib.hid hlp
  have HOLL := Lib.hid hll
  have HWC3 := Lib.hid hwc3
  have HZ1 := Lib.hid hZ1
  have HZ2 := Lib.hid hZ2
  have HZ3 := Lib.hid hZ3
  have HWK2 := Lib.hid hwk2
  have HZF := Lib.hid (fun W (hB : Below w.heap.size w W) => show Rd W W.heap.size A E z from (by rw [hzt, hE]; exact (HRF.out W hB).take (k := E) hTL))
  have HFP := Lib.hid (fun W (hB : Below w.heap.size w W) => show Rd W W.heap.size A len xs from HRF.out W hB)
  have HOPX := Lib.hid (show (xs.drop pt).take 2 = oldp by
    rw [← hop, hzt, hE, List.drop_take, List.take_take, Nat.min_eq_left (by omega)])
  have HUP := Lib.hid (fun W => run_upto8 A len cap E (E : Int) rfl (by omega) W)
  have HCUT := Lib.hid (fun W => run_cut8 A len cap ad 4 (ad : Int) ((ad : Int) + 4) rfl (by omega) (by omega) W)
  have HOLX := Lib.hid (show (xs.drop ad).take 4 = olds by
    rw [← hol, hzt, hE, List.drop_take, List.take_take, Nat.min_eq_left (by omega)])
  have HOLD := Lib.hid (fun W (hB : Below w.heap.size w W) => show Rd W W.heap.size (cutA A cap ad) 4 olds from HOLX.out ▸ (HRF.out W hB).cut (l := ad) (n := 4) (by omega) cap hcap)
  have HPC := Lib.hid (fun W (h : Blk W 37 0 (pkL k) ∨ True) => show True from trivial)
  have HKC := Lib.hid (fun W G (h : Blk W 37 G (pkL k)) => show W.cell? ⟨G, 39, none⟩ = some (.int .i64 (p : Int)) ∧ W.cell? ⟨G, 40, none⟩ = some (.int .i64 (s0 : Int)) ∧ W.cell? ⟨G, 41, none⟩ = some (.int .i64 (E : Int)) ∧ W.cell? ⟨G, 35, none⟩ = some (.int .i64 (prN u : Int)) from by
    obtain ⟨_, _, c3, c4, c5⟩ := pk_cells h HOK.out
    exact ⟨k3 ▸ c3, k2 ▸ c4, k1 ▸ c5, k9 ▸ Blk_10.cell h (pkL_pr HOK.out)⟩)
  have HPL := Lib.hid (fun W => show Calls Try.prog 19 #[.int .i64 (prN u : Int)] W fun e w' => e = .returned (.int .i64 (plc u : Nat)) ∧ W = w' from hpl0 ▸ rplace_any (prN u : Nat) W)
  have HNW := Lib.hid (fun W (h : Blk W 25 w.heap.size (adL a)) => show Rd W (w.heap.size + 1) (some ⟨w.heap.size, 1, none⟩) 4 new from hnw2 ▸ (range_rd (Blk_8.adB h) ha (Nat.lt_succ_self _)).take (k := 4) (by decide))
  have HC1H := Lib.hid (fun W A1 A2 c1 c2 (h1 : Rd W W.heap.size A1 4 olds) (h2 : Rd W W.heap.size A2 4 new) => hH ▸ rchanged_any wh hwh A1 4 c1 olds (by decide) A2 4 c2 new (by decide) W h1 h2 (Nat.le_refl _))
  have HC1S := Lib.hid (fun W A1 A2 c1 c2 (h1 : Rd W W.heap.size A1 4 olds) (h2 : Rd W W.heap.size A2 4 new) => hs1 ▸ rchanged_any wc hwc A1 4 c1 olds (by decide) A2 4 c2 new (by decide) W h1 h2 (Nat.le_refl _))
  have HC2S := Lib.hid (fun W A1 A2 c1 c2 (h1 : Rd W W.heap.size A1 2 oldp) (h2 : Rd W W.heap.size A2 2 (be2 mn)) => hs2 ▸ rchanged_any s1 (Nat.lt_succ_of_le hL1) A1 2 c1 oldp (by decide) A2 2 c2 (be2 mn) (by decide) W h1 h2 (Nat.le_refl _))
  have HNEW2 := Lib.hid (fun W => new_two W mn hml)
  have v1 : IntKind.i64.wrap ((p : Int) + 12) = ((p + 12 : Nat) : Int) := by rw [IntKind.wrap_i64]; omega
  have v2 : IntKind.i64.wrap ((p : Int) + 8) = ((p + 8 : Nat) : Int) := by rw [IntKind.wrap_i64]; omega
  have v3 : IntKind.i64.wrap (((p + 12 : Nat) : Int) + 4) = ((p + 12 + 4 : Nat) : Int) := by rw [IntKind.wrap_i64]; omega
  have v4 : IntKind.i64.wrap ((ad : Int) + 4) = (ad : Int) + 4 := by rw [IntKind.wrap_i64]; omega
  have v5 : IntKind.i64.wrap ((s0 : Int) + 2) = ((s0 + 2 : Nat) : Int) := by rw [IntKind.wrap_i64]; omega
  have v6 : IntKind.i64.wrap ((pt : Int) + 1) = (pt : Int) + 1 := by rw [IntKind.wrap_i64]; omega
  have v7 : IntKind.i64.wrap ((ck : Int) + 1) = (ck : Int) + 1 := by rw [IntKind.wrap_i64]; omega
  have v8' : IntKind.i64.wrap ((s0 : Int) + (plc u : Nat)) = (ck : Int) := by rw [IntKind.wrap_i64]; omega
  have v9 : IntKind.i64.wrap ((p : Int) + 10) = (kk : Int) := by rw [IntKind.wrap_i64]; omega
  have va : IntKind.i64.wrap ((kk : Int) + 1) = (kk : Int) + 1 := by rw [IntKind.wrap_i64]; omega
  have m1' : IntKind.i64.wrap ((mn : Int) / 256) = (mn : Int) / 256 := by rw [IntKind.wrap_i64]; omega
  have m2' : IntKind.u8.wrap ((mn : Int) / 256) = (mn : Int) / 256 := by rw [IntKind.wrap_u8]; omega
  have m3' : IntKind.u8.wrap ((mn : Int) % 256) = (mn : Int) % 256 := by rw [IntKind.wrap_u8]; omega
  have m4' : Int.tdiv (mn : Int) 256 = (mn : Int) / 256 := Int.tdiv_eq_ediv_of_nonneg (by omega)
  have m5' : Int.tmod (mn : Int) 256 = (mn : Int) % 256 := Int.tmod_eq_emod_of_nonneg (by omega)
  have mm1 : decide ((mn : Int) < 0) = false := decide_eq_false (by omega)
  have mm2 : decide ((65535 : Int) < (mn : Int)) = false := decide_eq_false (by omega)
  have mm3 : decide (65535 < mn) = false := decide_eq_false (by omega)
  have mm4 : ¬ (mn : Int) < 0 := by omega
  have mm5 : ¬ (65535 : Int) < (mn : Int) := by omega
  have hsplit1 : ((UInt8.ofNat (mn / 256)).toNat : Int) = (mn : Int) / 256 := by rw [u8nat (by omega)]; omega
  have hsplit2 : ((UInt8.ofNat (mn % 256)).toNat : Int) = (mn : Int) % 256 := by rw [u8nat (by omega)]; omega
  have EM1 := Lib.hid hsplit1
  have EM2 := Lib.hid hsplit2
  have NE := Lib.hid (show E ≤ 10000 by omega)
  have NAD := Lib.hid (show ad + 4 ≤ E by omega)
  have NPT := Lib.hid (show pt + 2 ≤ E by omega)
  have NCK := Lib.hid (show ck + 2 ≤ E by omega)
  have NKK := Lib.hid (show kk + 2 ≤ E by omega)
  have NEC := Lib.hid (show E ≤ len ∧ len ≤ cap by omega)
  have HIN := Lib.hid (show pt + 2 ≤ len by omega)
  have NH := Lib.hid hLH
  have N1 := Lib.hid hL1
  have N2 := Lib.hid hL2
  obtain ⟨pl, hpl2⟩ : ∃ x, plc u = x := ⟨_, rfl⟩
  rw [hpl2] at v8' HPL
  obtain ⟨PN, hPN⟩ : ∃ x, prN u = x := ⟨_, rfl⟩
  rw [hPN] at HKC HPL
  have HPN := Lib.hid hPN
  have HK4 := Lib.hid k4
  have hp1 : (p : Int) ≤ 10000 := by omega
  have HAD := Lib.hid had
  have HPT := Lib.hid hpt
  clear hY hq hbel hk ha hC1 hI hmay hA k1 k2 k3 k5 k6 k7 k8 k9 hbd hbx hok h0' hnat hzl hzt hof m0 m1 hTL hml had hs0 hpt hck hE hsp hpl q2 q3 q4 hpc hpl0 hnw hnw2 hnl hol hop hll hlp hwce hs1 hs2 hZ1 hZ2 hZ3 z1l z2l z3l hwc3 hfin hidle hnid hsplit1 hsplit2 hpl2 hPN HPC hL1 hL2 hwc hkk hwhe hH hwh hLH hkk2 hwk2
  go_enter Try.func12, Try.ntmps12
  go_wp2_with fail
  rw [HY.out]
  refine HRD.out.mono ?_
  rintro e w1 ⟨rfl, hb1⟩
  have HB1 := Lib.hid (HB.out.trans (hb1.mono HB.out.size))
  have HQ1 := Lib.hid (HQ.out.below HQ.out.lt hb1)
  clear hb1
  go_wp2_with (first
    | ((with_reducible show wpList _ _ _ (⟨none, .store 37 (.tmp 10) _, _, _, _, _⟩ :: _) _ _); refine wpList_storePk rfl (.tmp 10) _ rfl (by rfl) k HOK.out (by rfl) (by rfl) ?_; intro w2 hp2 hb2; have HP2 := Lib.hid hp2; have HB2 := Lib.hid (HB1.out.trans (hb2.mono HB1.out.size)); have HQ2 := Lib.hid (HQ1.out.below HQ1.out.lt hb2); have HGW : Hid (w.heap.size < w1.heap.size) := Lib.hid HQ1.out.lt; clear hp2 hb2; generalize w1.heap.size = G at HP2 HGW ⊢; have c0 := (pk_cells HP2.out HOK.out).1; have c1 : w2.cell? ⟨G, 1, none⟩ = some (.bool k.t.s.six) := Blk_10.cell HP2.out rfl; rw [hk0] at c0; rw [HK4.out] at c1; obtain ⟨k39, k40, k41, k35⟩ := HKC.out w2 G HP2.out; clear k39 k40 k41 k35)
    | ((with_reducible show wpList _ _ _ (⟨some 34, _, _, _, _, _⟩ :: _) _ _); refine wpList_loadM (op := ⟨some 34, _, _, _, _, _⟩) 25 _ rfl (by rfl) w.heap.size 0 (by rfl) (adL a) (Blk_10.range HQ2.out) _ Try.underlying25 rfl (sizeAdL HAL.out) ?_; rw [HC1.out]))
  refine (HOF.out _).mono ?_
  rintro e w3 ⟨rfl, hb3⟩
  have HB3 := Lib.hid (HB2.out.trans (hb3.mono HB2.out.size))
  have HQ3 := Lib.hid (HQ2.out.below HQ2.out.lt hb3)
  have HP3 := Lib.hid (HP2.out.below HP2.out.lt hb3)
  have HGL := Lib.hid HP3.out.lt
  clear hb3 c0 c1
  obtain ⟨k39, k40, k41, k35⟩ := HKC.out w3 G HP3.out
  clear k39 k40 k35
  have hup := HUP.out
  have hcut := HCUT.out
  have HE3 := Lib.hid (empty8 (base := w3.heap.size) w3 (Nat.le_refl _))
  have LA := Lib.hid (show ([] : List UInt8).length + E ≤ 2000000000 by have := NE.out; rw [List.length_nil]; omega)
  have LB := Lib.hid (show ([] : List UInt8).length + 4 ≤ 2000000000 by decide)
  have hEpos : 0 < E := by have := NCK.out; omega
  have HEP := Lib.hid hEpos
  clear hEpos
  have gl3 := HGL.out
  go_upto_if 61 with (((with_reducible show wpList _ _ _ (⟨some 51, _, _, _, _, _⟩ :: _) _ _); refine wpList_append8 (o := ⟨some 51, _, _, _, _, _⟩) rfl _ _ rfl w3.heap.size _ [] (by rfl) HE3.out _ A E cap z (by rfl) ((HZF.out w3 HB3.out).alloc (Nat.le_refl _) _) LA.out (by simp) ?_; intro v4 w4 ho4 hg4 hq4; clear hq4; rw [List.nil_append] at ho4; have e4 : Below w3.heap.size w3 w4 := ((Below.refl _ w3).alloc (Nat.le_refl _) (.cells #[] 5)).grown hg4 (by simp) HE3.out.lt; obtain ⟨g, c4, rfl, hc4, hm4, hgb4, hgl4, _⟩ := ho4.formG HZL.out HEP.out; have HO4 := Lib.hid ho4; have HB4 := Lib.hid (HB3.out.trans (e4.mono HB3.out.size)); have HQ4 := Lib.hid (HQ3.out.below HQ3.out.lt e4); have HP4 := Lib.hid (HP3.out.below HP3.out.lt e4); have HGg : Hid (G < g) := Lib.hid (Nat.lt_of_lt_of_le HGL.out hgb4); have HWg : Hid (w.heap.size < g) := Lib.hid (Nat.lt_trans HGW.out HGg.out); have HG4 := Lib.hid hgl4; have HC4 := Lib.hid hc4; clear k41 gl3 ho4 hg4 e4 hc4 hm4 hgb4 hgl4; obtain ⟨k39, k40, k41, k35⟩ := HKC.out w4 G HP4.out; clear k41 k35; have HE4 := Lib.hid (empty8 (base := w4.heap.size) w4 (Nat.le_refl _))))
  go_cut [14, 15] from 22 (fun s14 s15 wx => s14 = .int .i64 (ad : Int) ∧ s15 = .int .i64 (pt : Int) ∧ wx = w4)
  case first =>
    cases dst with
    | true =>
      have e14 := Lib.hid (congrArg (fun q : Nat => Value.int .i64 (q : Int)) (show p + 12 + 4 = ad from HAD.out))
      have e15 := Lib.hid (congrArg (fun q : Nat => Value.int .i64 (q : Int)) (show s0 + 2 = pt from HPT.out))
      go_wp2_with fail
      go_meet
      case rel => exact ⟨e14.out, e15.out, rfl⟩
    | false =>
      have e14 := Lib.hid (congrArg (fun q : Nat => Value.int .i64 (q : Int)) (show p + 12 = ad from HAD.out))
      have e15 := Lib.hid (congrArg (fun q : Nat => Value.int .i64 (q : Int)) (show s0 = pt from HPT.out))
      go_wp2_with fail
      go_meet
      case rel => exact ⟨e14.out, e15.out, rfl⟩
  case rest =>
  obtain ⟨rfl, rfl, hwx⟩ := hcut
  have hwx := hwx.symm
  subst hwx
  clear v1 v2 v3 v5 HAD HPT
  have HE4 := Lib.hid (empty8 (base := w4.heap.size) w4 (Nat.le_refl _))
  go_wp2_with (((with_reducible show wpList _ _ _ (⟨some 75, _, _, _, _, _⟩ :: _) _ _); refine wpList_append8 (o := ⟨some 75, _, _, _, _, _⟩) rfl _ _ rfl w4.heap.size _ [] (by rfl) HE4.out _ (cutA A cap ad) 4 (cap - ad) olds (by rfl) ((HOLD.out w4 HB4.out).alloc (Nat.le_refl _) _) LB.out (by simp) ?_; intro v5 w5 ho5 hg5 hq5; clear hq5; rw [List.nil_append] at ho5; have e5 : Below w4.heap.size w4 w5 := ((Below.refl _ w4).alloc (Nat.le_refl _) (.cells #[] 5)).grown hg5 (by simp) HE4.out.lt; obtain ⟨A5, c5, rfl, hc5, hm5, _⟩ := ho5.formN HOLL.out; have HD5 := Lib.hid ho5; have HO5 := Lib.hid (HO4.out.below e5); have HB5 := Lib.hid (HB4.out.trans (e5.mono HB4.out.size)); have HQ5 := Lib.hid (HQ4.out.below HQ4.out.lt e5); have HP5 := Lib.hid (HP4.out.below HP4.out.lt e5); have HG5 := Lib.hid (Nat.lt_of_lt_of_le HG4.out e5.size); have HDL := Lib.hid (own_lt ho5 (ho5.rdN HOLL.out).2.2); clear k39 k40 ho5 hg5 e5 hc5 hm5))
  clear hup hcut
  have HF5 : Hid (Own8 w5 w5.heap.size (.slice none 0 0) []) := Lib.hid (Own8.nil_ w5 _)
  have NW5 := Lib.hid (Nat.le_refl w5.heap.size)
  obtain ⟨B5, hB5⟩ : ∃ B, w5.heap.size = B := ⟨_, rfl⟩
  rw [hB5] at HF5 HG5 HDL NW5
  have HB5W : Hid (B5 ≤ w5.heap.size) := Lib.hid (Nat.le_of_eq hB5.symm)
  clear hB5
  go_loopw [17, 18] (fun v i wr => ∃ (j : Nat) (A6 : Option Addr) (c6 : Nat), j ≤ 4 ∧ v = .slice A6 j c6 ∧ i = .int .i64 (j : Int) ∧ Own8 wr B5 (.slice A6 j c6) (new.take j) ∧ Own8 wr w3.heap.size (.slice (some ⟨g, 0, none⟩) E c4) (setL z ad (new.take j)) ∧ Own8 wr w4.heap.size (.slice A5 4 c5) olds ∧ Blk wr 37 G (pkL k) ∧ Blk wr 25 w.heap.size (adL a) ∧ Below w.heap.size w wr ∧ B5 ≤ wr.heap.size)
    (fun _ i _ => 4 - (intOf i).toNat)
  case atStart => exact ⟨0, none, 0, Nat.zero_le _, rfl, rfl, (by rw [List.take_zero]; exact HF5.out), (by rw [List.take_zero, setL_nil]; exact HO5.out), HD5.out, HP5.out, HQ5.out, HB5.out, HB5W.out⟩
  case round =>
    clear HF5 HO5 HD5 HP5 HQ5 HB5 HB5W
    obtain ⟨j, A6, c6, hj, rfl, rfl, hf6, ho6, hd6, hp6, hq6, hb6, hw6⟩ := hrel
    have HO6 := Lib.hid ho6
    have HD6 := Lib.hid hd6
    have HP6 := Lib.hid hp6
    have HQ6 := Lib.hid hq6
    have HB6 := Lib.hid hb6
    have HW6 := Lib.hid hw6
    have HF6 := Lib.hid hf6
    clear ho6 hd6 hp6 hq6 hb6 hw6 hf6
    by_cases hlt : j < 4
    · have hlt' : (j : Int) < 4 := by omega
      obtain ⟨x, hx⟩ : ∃ x, new[j]? = some x := ⟨_, List.getElem?_eq_getElem (by rw [HNL.out]; exact hlt)⟩
      have HX := Lib.hid hx
      have HTK := Lib.hid (show new.take j ++ [x] = new.take (j + 1) by rw [List.take_add_one, hx]; rfl)
      have HST := Lib.hid (setL_one (xs := z) (k := ad) hx)
      have HJL := Lib.hid (show (new.take j).length = j by rw [List.length_take, HNL.out]; omega)
      have HJ1 := Lib.hid (show (new.take (j + 1)).length = j + 1 by rw [List.length_take, HNL.out]; omega)
      have HCX := Lib.hid (fun W (h : Blk W 25 w.heap.size (adL a)) => show W.cell? ⟨w.heap.size, 1 + j, none⟩ = some (.int .u8 (x.toNat : Int)) from by
        obtain ⟨b', off', e', _, hc'⟩ := (HNW.out W h).2 (by decide)
        cases e'
        exact hc' j x hx)
      have hc := HCX.out wr HQ6.out
      have u1 : IntKind.i64.wrap ((ad : Int) + (j : Int)) = ((ad + j : Nat) : Int) := by have := NAD.out; have := NE.out; rw [IntKind.wrap_i64]; omega
      have u2 : ((ad + j : Nat) : Int) < (E : Int) := by have := NAD.out; omega
      have NJ := Lib.hid (show ad + j < E by have := NAD.out; omega)
      have LJ := Lib.hid (show (new.take j).length + 1 ≤ 2000000000 by rw [HJL.out]; omega)
      have u3 : IntKind.i64.wrap ((j : Int) + 1) = (j : Int) + 1 := by rw [IntKind.wrap_i64]; omega
      clear hx
      go_wp2_with (first
        | ((with_reducible show wpList _ _ _ (⟨some 87, _, _, _, _, _⟩ :: _) _ _); refine wpList_append8 (o := ⟨some 87, _, _, _, _, _⟩) rfl _ _ rfl B5 _ (new.take j) (by rfl) (HF6.out.alloc _) _ _ _ _ [x] (by rfl) (Rd.one wr x) LJ.out (by rw [World.size_alloc]; exact Nat.le_succ_of_le HW6.out) ?_; intro v7 w7 ho7 hg7 hq7; clear hq7; rw [HTK.out] at ho7; have e7 : Below B5 wr w7 := ((Below.refl _ wr).alloc HW6.out (.cells #[.int .u8 (x.toNat : Int)] 5)).grown hg7 (by rw [World.size_alloc]; exact Nat.le_succ_of_le HW6.out) HF6.out.lt; obtain ⟨A7, c7, rfl, _, _, _⟩ := ho7.formN HJ1.out; have HF7 := Lib.hid ho7; have HO7 := Lib.hid ((HO6.out.alloc (.cells #[.int .u8 (x.toNat : Int)] 5)).kept hg7 (young_off (fun g' hg' => by cases hg'; exact HG5.out) HF6.out)); have HD7 := Lib.hid ((HD6.out.alloc (.cells #[.int .u8 (x.toNat : Int)] 5)).kept hg7 (young_off HDL.out HF6.out)); have HP7 := Lib.hid (HP6.out.below (Nat.lt_trans HGg.out HG5.out) e7); have HQ7 := Lib.hid (HQ6.out.below (Nat.lt_trans HWg.out HG5.out) e7); have HB7 := Lib.hid (HB6.out.trans (e7.mono (Nat.le_of_lt (Nat.lt_trans HWg.out HG5.out)))); have HW7 := Lib.hid (Nat.le_trans HW6.out e7.size); clear ho7 hg7 e7 hc; have hc := HCX.out w7 HQ7.out)
        | ((with_reducible show wpList _ _ _ (⟨none, .store 5 (.tmp 96) _, _, _, _, _⟩ :: _) _ _); refine wpList_storeOG rfl (.tmp 96) _ rfl g (ad + j) (by rfl) x _ rfl (by rfl) _ E c4 w3.heap.size (by rw [setL_len]; exact HZL.out) HO7.out NJ.out ?_; intro w8 ho8 hg8; rw [HST.out] at ho8; have HO8 := Lib.hid ho8; have HF8 := Lib.hid (own_kept HF7.out hg8 HG5.out); have HD8 := Lib.hid (own_kept HD7.out hg8 HG4.out); have HP8 := Lib.hid (HP7.out.below HGg.out (gb_to_below hg8 (Nat.le_refl g) (Nat.le_trans (Nat.le_of_lt HG5.out) HW7.out))); have HQ8 := Lib.hid (HQ7.out.below HWg.out (gb_to_below hg8 (Nat.le_refl g) (Nat.le_trans (Nat.le_of_lt HG5.out) HW7.out))); have HB8 := Lib.hid (HB7.out.trans (gb_to_below hg8 (Nat.le_of_lt HWg.out) HB7.out.size)); have HW8 := Lib.hid (Nat.le_trans HW7.out hg8.size); clear ho8 hg8 hc))
      go_roundw
      case rel => exact ⟨j + 1, A7, c7, hlt, rfl, (by go_num), HF8.out, HO8.out, HD8.out, HP8.out, HQ8.out, HB8.out, HW8.out⟩
      case measure => simp [intOf]; omega
    · obtain rfl : j = 4 := by omega
      have hnt : new.take 4 = new := by rw [← HNL.out, List.take_length]
      rw [hnt, HZ1.out] at HO6
      rw [hnt] at HF6
      clear hlt hj hnt
      have K6 : Hid (KS w B5 w4.heap.size (.slice A6 4 c6) (.slice A5 4 c5) new olds G k a wr) := Lib.hid ⟨HF6.out, HD6.out, HP6.out, HQ6.out, HB6.out, HW6.out⟩
      clear HF6 HD6 HP6 HQ6 HB6 HW6
      have t1 : (pt : Int) < (E : Int) := by have := NPT.out; omega
      have t2 : (pt : Int) + 1 < (E : Int) := by have := NPT.out; omega
      have t3 : ((pt : Int) + 1).toNat = pt + 1 := by omega
      have t4 : ¬ (pt : Int) + 1 < 0 := by omega
      have L1 := Lib.hid (show pt < E by have := NPT.out; omega)
      have L2 := Lib.hid (show pt + 1 < E by have := NPT.out; omega)
      have HS9 := Lib.hid (show (Z1.set pt (UInt8.ofNat (mn / 256))).set (pt + 1) (UInt8.ofNat (mn % 256)) = Z2 from (put2_setL Z1 pt mn).trans HZ2.out)
      go_wp2_with (first
        | ((with_reducible show wpList _ _ _ (⟨none, .store 5 (.tmp 102) _, _, _, _, _⟩ :: _) _ _); refine wpList_storeOG rfl (.tmp 102) _ rfl g pt (by rfl) (UInt8.ofNat (mn / 256)) _ EM1.out.symm (by rfl) Z1 E c4 w3.heap.size Z1L.out HO6.out L1.out ?_; intro w9a ho9a hg9a; have HO9a := Lib.hid ho9a; have K9a := Lib.hid (K6.out.gb hg9a HG5.out HG4.out HGg.out HWg.out); clear ho9a hg9a)
        | ((with_reducible show wpList _ _ _ (⟨none, .store 5 (.tmp 109) _, _, _, _, _⟩ :: _) _ _); refine wpList_storeOG rfl (.tmp 109) _ rfl g (pt + 1) (by rfl) (UInt8.ofNat (mn % 256)) _ EM2.out.symm (by rfl) _ E c4 w3.heap.size (by rw [List.length_set]; exact Z1L.out) HO9a.out L2.out ?_; intro w9 ho9 hg9; rw [HS9.out] at ho9; have HO9 := Lib.hid ho9; have K9 := Lib.hid (K9a.out.gb hg9 HG5.out HG4.out HGg.out HWg.out); clear ho9 hg9; clear t1 t2 t3 t4 L1 L2; obtain ⟨k39, k40, k41, k35⟩ := HKC.out w9 G K9.out.p; clear k40 k41 k35))
      clear k39
      have HRK := Lib.hid (fun W (hW : Below w9.heap.size w9 W) => (HO9.out.below hW).rdN Z2L.out |>.2.2)
      have HCK := Lib.hid (fun W (hW : Below w9.heap.size w9 W) => show W.cell? ⟨g, kk, none⟩ = some (.int .u8 (batN Z2 kk : Int)) ∧ W.cell? ⟨g, kk + 1, none⟩ = some (.int .u8 (batN Z2 (kk + 1) : Int)) from by
        have h1 := (HRK.out W hW).cellD (k := kk) (by have := NKK.out; omega)
        have h2 := (HRK.out W hW).cellD (k := kk + 1) (by have := NKK.out; omega)
        rw [Nat.zero_add] at h1 h2
        exact ⟨h1, h2⟩)
      have x0 := batN_lt Z2 kk
      have x1 := batN_lt Z2 (kk + 1)
      have ew : wh = 256 * batN Z2 kk + batN Z2 (kk + 1) := HWK2.out.symm
      have HFR := Lib.hid (fun W (hW : Below w9.heap.size w9 W) => ((K9.out.f.below hW).rdN HNL.out).2.2)
      have HDR := Lib.hid (fun W (hW : Below w9.heap.size w9 W) => ((K9.out.d.below hW).rdN HOLL.out).2.2)
      generalize batN Z2 kk = ba at HCK x0 ew
      generalize batN Z2 (kk + 1) = bb at HCK x1 ew
      have y1 : IntKind.i64.wrap (ba : Int) = (ba : Int) := by rw [IntKind.wrap_i64]; omega
      have y2 : IntKind.i64.wrap (bb : Int) = (bb : Int) := by rw [IntKind.wrap_i64]; omega
      have y3 : IntKind.i64.wrap (256 * (ba : Int)) = 256 * (ba : Int) := by rw [IntKind.wrap_i64]; omega
      have y4 : IntKind.i64.wrap (256 * (ba : Int) + (bb : Int)) = (wh : Int) := by rw [IntKind.wrap_i64]; omega
      clear x0 x1 ew
      have t1 : (kk : Int) < (E : Int) := by have := NKK.out; omega
      have t2 : (kk : Int) + 1 < (E : Int) := by have := NKK.out; omega
      have t3 : ((kk : Int) + 1).toNat = kk + 1 := by omega
      have t4 : ¬ (kk : Int) + 1 < 0 := by omega
      have L1 := Lib.hid (show kk < E by have := NKK.out; omega)
      have L2 := Lib.hid (show kk + 1 < E by have := NKK.out; omega)
      refine wp_region_held_drew (S := fun W => Below w9.heap.size w9 W) (by kernel_rfl) ((Below.refl _ _).drew) (fun hHeld => ?_)
      obtain ⟨X, hX⟩ : ∃ X, w9.drew = X := ⟨_, rfl⟩
      rw [hX] at hHeld ⊢
      clear hX
      refine tk 0 115 (.slice (some ⟨g, 0, none⟩) E c4) rfl hHeld ?_
      simp only [Act.put, sA, sZ, sS]
      refine tk 1 116 (.int .i64 (kk : Int)) rfl hHeld ?_
      simp only [Act.put, sA, sZ, sS]
      refine tk 2 117 (.pointer (some ⟨g, kk, none⟩)) rfl hHeld ?_
      simp only [Act.put, sA, sZ, sS]
      refine tkY 3 118 (.int .u8 (ba : Int)) rfl (Or.inl ⟨by rfl, fun W hW => by have hc := (HCK.out W hW).1; go_simp⟩) hHeld ?_
      simp only [Act.put, sA, sZ, sS]
      refine tk 4 119 (.int .i64 (ba : Int)) rfl hHeld ?_
      simp only [Act.put, sA, sZ, sS]
      refine tk 5 120 (.int .i64 (256 * (ba : Int))) rfl hHeld ?_
      simp only [Act.put, sA, sZ, sS]
      refine tk 6 121 (.slice (some ⟨g, 0, none⟩) E c4) rfl hHeld ?_
      simp only [Act.put, sA, sZ, sS]
      refine tk 7 122 (.int .i64 (kk : Int)) rfl hHeld ?_
      simp only [Act.put, sA, sZ, sS]
      refine tk 8 123 (.int .i64 ((kk : Int) + 1)) rfl hHeld ?_
      simp only [Act.put, sA, sZ, sS]
      refine tk 9 124 (.pointer (some ⟨g, kk + 1, none⟩)) rfl hHeld ?_
      simp only [Act.put, sA, sZ, sS]
      refine tkY 10 125 (.int .u8 (bb : Int)) rfl (Or.inl ⟨by rfl, fun W hW => by have hc := (HCK.out W hW).2; go_simp⟩) hHeld ?_
      simp only [Act.put, sA, sZ, sS]
      refine tk 11 126 (.int .i64 (bb : Int)) rfl hHeld ?_
      simp only [Act.put, sA, sZ, sS]
      refine tk 12 127 (.int .i64 (wh : Int)) rfl hHeld ?_
      simp only [Act.put, sA, sZ, sS]
      refine tk 13 128 (.slice A5 4 c5) rfl hHeld ?_
      simp only [Act.put, sA, sZ, sS]
      refine tk 14 129 (.slice A6 4 c6) rfl hHeld ?_
      simp only [Act.put, sA, sZ, sS]
      refine wpAnyH_ready (rs := [15]) (by kernel_rfl) (by simp) (AllReadyH.cons (o := ⟨some 130, _, _, _, _, _⟩) rfl (fun K hK => ?_) AllReadyH.nil)
      go_simp
      refine (HC1H.out X A5 A6 c5 c6 (HDR.out _ hHeld) (HFR.out _ hHeld)).mono ?_
      rintro e w10 ⟨rfl, hb10⟩
      refine hK.out _ _ (hHeld.trans (hb10.mono hHeld.size)) (fun hHeld => ?_)
      clear hK K hb10
      refine tk 16 20 (.int .i64 (H : Int)) rfl hHeld ?_
      simp only [Act.put, sA, sZ, sS]
      refine wpAnyH_done (by kernel_rfl) ?_ _
      have hh := hHeld
      have K11 := Lib.hid (K9.out.below hh)
      have HO11 := Lib.hid (HO9.out.below hh)
      clear hh hHeld y1 y2 y3 y4
      have h1' : IntKind.i64.wrap ((H : Int) / 256) = (H : Int) / 256 := by have := NH.out; rw [IntKind.wrap_i64]; omega
      have h2' : IntKind.u8.wrap ((H : Int) / 256) = (H : Int) / 256 := by have := NH.out; rw [IntKind.wrap_u8]; omega
      have h3' : IntKind.u8.wrap ((H : Int) % 256) = (H : Int) % 256 := by rw [IntKind.wrap_u8]; omega
      have h4' : Int.tdiv (H : Int) 256 = (H : Int) / 256 := Int.tdiv_eq_ediv_of_nonneg (by omega)
      have h5' : Int.tmod (H : Int) 256 = (H : Int) % 256 := Int.tmod_eq_emod_of_nonneg (by omega)
      have EH1 := Lib.hid (show ((UInt8.ofNat (H / 256)).toNat : Int) = (H : Int) / 256 by have := NH.out; rw [u8nat (by omega)]; omega)
      have EH2 := Lib.hid (show ((UInt8.ofNat (H % 256)).toNat : Int) = (H : Int) % 256 by rw [u8nat (by omega)]; omega)
      have HS12 := Lib.hid (show (Z2.set kk (UInt8.ofNat (H / 256))).set (kk + 1) (UInt8.ofNat (H % 256)) = Z3 from (put2_setL Z2 kk H).trans HZ3.out)
      go_wp2_with (first
        | ((with_reducible show wpList _ _ _ (⟨none, .store 5 (.tmp 136) _, _, _, _, _⟩ :: _) _ _); refine wpList_storeOG rfl (.tmp 136) _ rfl g kk (by rfl) (UInt8.ofNat (H / 256)) _ EH1.out.symm (by rfl) Z2 E c4 w3.heap.size Z2L.out HO11.out L1.out ?_; intro w12a ho12a hg12a; have HO12a := Lib.hid ho12a; have K12a := Lib.hid (K11.out.gb hg12a HG5.out HG4.out HGg.out HWg.out); clear ho12a hg12a)
        | ((with_reducible show wpList _ _ _ (⟨none, .store 5 (.tmp 143) _, _, _, _, _⟩ :: _) _ _); refine wpList_storeOG rfl (.tmp 143) _ rfl g (kk + 1) (by rfl) (UInt8.ofNat (H % 256)) _ EH2.out.symm (by rfl) _ E c4 w3.heap.size (by rw [List.length_set]; exact Z2L.out) HO12a.out L2.out ?_; intro w12 ho12 hg12; rw [HS12.out] at ho12; have HO12 := Lib.hid ho12; have K12 := Lib.hid (K12a.out.gb hg12 HG5.out HG4.out HGg.out HWg.out); clear ho12 hg12))
      clear t1 t2 t3 t4 L1 L2 h1' h2' h3' h4' h5'
      have HK9 := Lib.hid (fun W (hW : Below w12.heap.size w12 W) => HKC.out W G (K12.out.p.below K12.out.p.lt hW))
      refine wp_region_held_drew (S := fun W => Below w12.heap.size w12 W) (by kernel_rfl) ((Below.refl _ _).drew) (fun hHeld => ?_)
      obtain ⟨w14, hX⟩ : ∃ X, w12.drew = X := ⟨_, rfl⟩
      rw [hX] at hHeld ⊢
      clear hX
      refine tk 0 144 (.pointer (some ⟨G, 40, none⟩)) rfl hHeld ?_
      simp only [Act.put, sA, sZ, sS]
      refine tkY 1 145 (.int .i64 (s0 : Int)) rfl (Or.inl ⟨by rfl, fun W hW => by have hc := (HK9.out W hW).2.1; go_simp⟩) hHeld ?_
      simp only [Act.put, sA, sZ, sS]
      refine tk 2 146 (.pointer (some ⟨G, 1, none⟩)) rfl hHeld ?_
      simp only [Act.put, sA, sZ, sS]
      refine tk 3 147 (.pointer (some ⟨G, 35, none⟩)) rfl hHeld ?_
      simp only [Act.put, sA, sZ, sS]
      refine tkY 4 148 (.int .i64 (PN : Int)) rfl (Or.inl ⟨by rfl, fun W hW => by have hc := (HK9.out W hW).2.2.2; go_simp⟩) hHeld ?_
      simp only [Act.put, sA, sZ, sS]
      refine wpAnyH_ready (rs := [5]) (by kernel_rfl) (by simp) (AllReadyH.cons (o := ⟨some 149, _, _, _, _, _⟩) rfl (fun K hK => ?_) AllReadyH.nil)
      go_simp
      refine (HPL.out _).mono ?_
      rintro e w13 ⟨rfl, rfl⟩
      refine hK.out _ _ (hHeld) (fun hHeld => ?_)
      clear hK K 
      refine tk 6 150 (.int .i64 (ck : Int)) rfl hHeld ?_
      simp only [Act.put, sA, sZ, sS]
      refine tk 7 21 (.int .i64 (ck : Int)) rfl hHeld ?_
      simp only [Act.put, sA, sZ, sS]
      refine wpAnyH_done (by kernel_rfl) ?_ _
      have hh := hHeld
      have K14 := Lib.hid (K12.out.below hh)
      have HO14 := Lib.hid (HO12.out.below hh)
      clear hh hHeld
      have t1 : (ck : Int) < (E : Int) := by have := NCK.out; omega
      have t2 : (ck : Int) + 1 < (E : Int) := by have := NCK.out; omega
      have t3 : ((ck : Int) + 1).toNat = ck + 1 := by omega
      have t4 : ¬ (ck : Int) + 1 < 0 := by omega
      have L1 := Lib.hid (show ck < E by have := NCK.out; omega)
      have L2 := Lib.hid (show ck + 1 < E by have := NCK.out; omega)
      have c0 := ((HO14.out.rdN Z3L.out).2.2).cellD (k := ck) L1.out
      have c1 := ((HO14.out.rdN Z3L.out).2.2).cellD (k := ck + 1) L2.out
      rw [Nat.zero_add] at c0 c1
      have x0 := batN_lt Z3 ck
      have x1 := batN_lt Z3 (ck + 1)
      have ew : wc = 256 * batN Z3 ck + batN Z3 (ck + 1) := HWC3.out.symm
      generalize batN Z3 ck = ba at c0 x0 ew
      generalize batN Z3 (ck + 1) = bb at c1 x1 ew
      have y1 : IntKind.i64.wrap (ba : Int) = (ba : Int) := by rw [IntKind.wrap_i64]; omega
      have y2 : IntKind.i64.wrap (bb : Int) = (bb : Int) := by rw [IntKind.wrap_i64]; omega
      have y3 : IntKind.i64.wrap (256 * (ba : Int)) = 256 * (ba : Int) := by rw [IntKind.wrap_i64]; omega
      have y4 : IntKind.i64.wrap (256 * (ba : Int) + (bb : Int)) = (wc : Int) := by rw [IntKind.wrap_i64]; omega
      have hwc : wc < 65536 := by omega
      clear x0 x1 ew
      go_wp2_with fail
      go_quiet (fail)
      have hdq := below_drewN (Below.refl w14.heap.size w14) nq
      have Kq := Lib.hid (K14.out.below hdq)
      have HOq := Lib.hid (HO14.out.below hdq)
      clear hdq
      generalize w14.drewN nq = wq at Kq HOq ⊢
      clear y1 y2 y3 y4 c0 c1
      obtain ⟨k39, k40, k41, k35⟩ := HKC.out wq G Kq.out.p
      clear k39 k40 k41
      have CH1 := Lib.hid (fun W (hW : Below wq.heap.size wq W) => HC1S.out W A5 A6 c5 c6 (((Kq.out.d.below hW).rdN HOLL.out).2.2) (((Kq.out.f.below hW).rdN HNL.out).2.2))
      cases u with
      | true =>
        have e17 : PN = 17 := HPN.out.symm
        subst e17
        by_cases hz : wc = 0
        · subst hz
          have HEQ := Lib.hid (HIDLE.out ⟨rfl, rfl⟩)
          have b1 : (((0 : Nat) : Int) == 0) = true := rfl
          clear t1 t2 t3 t4 hwc
          go_wp2_with fail
          go_ret2
          exact ⟨.slice (some ⟨g, 0, none⟩) E c4, rfl, by rw [← HEQ.out]; exact HOq.out.base_le HB3.out.size, Kq.out.b⟩
        · have HNE := Lib.hid (HNID.out (fun h => hz h.2))
          have b1 : ((wc : Int) == 0) = false := by simp; omega
          have b2 : (wc == 0) = false := by simp [hz]
          clear hz hwc
          go_wp2_with fail
          refine (CH1.out _ (Below.refl _ _)).mono ?_
          rintro e w15 ⟨rfl, hb15⟩
          have K15 := Lib.hid (Kq.out.below hb15)
          have HO15 := Lib.hid (HOq.out.below hb15)
          clear hb15 k35
          obtain ⟨fb, fo, hfa, _⟩ := (HFP.out w15 K15.out.b).addr (by have := HIN.out; omega)
          have HFC := Lib.hid (fun W (hW : Below w15.heap.size w15 W) => show W.cell? ⟨fb, fo + pt, none⟩ = some (.int .u8 (batN xs pt : Int)) ∧ W.cell? ⟨fb, fo + (pt + 1), none⟩ = some (.int .u8 (batN xs (pt + 1) : Int)) from by
            have hr := HFP.out W (K15.out.b.trans (hW.mono K15.out.b.size))
            rw [hfa] at hr
            exact ⟨hr.cellD (k := pt) (by have := HIN.out; omega), hr.cellD (k := pt + 1) (by have := HIN.out; omega)⟩)
          have HOPC := Lib.hid (show (#[.int .u8 (batN xs pt : Int), .int .u8 (batN xs (pt + 1) : Int)] : Array Value) = (oldp.map v8).toArray by
            have := two_be2 xs pt (by rw [HXL.out]; exact HIN.out)
            rw [HOPX.out] at this
            rw [← this]
            have x0 := batN_lt xs pt
            have x1 := batN_lt xs (pt + 1)
            rw [← be2_cellsN (wat xs pt) (wat_lt xs pt)]
            have e : wat xs pt = 256 * batN xs pt + batN xs (pt + 1) := rfl
            rw [show ((wat xs pt : Nat) : Int) / 256 = (batN xs pt : Int) by omega, show ((wat xs pt : Nat) : Int) % 256 = (batN xs (pt + 1) : Int) by omega])
          generalize batN xs pt = ba at HFC HOPC
          generalize batN xs (pt + 1) = bb at HFC HOPC
          have f1 : (pt : Int) < (len : Int) := by have := HIN.out; omega
          have f2 : (pt : Int) + 1 < (len : Int) := by have := HIN.out; omega
          have f3 : ((pt : Int) + 1).toNat = pt + 1 := by omega
          have f4 : ¬ (pt : Int) + 1 < 0 := by omega
          subst hfa
          go_wp2_with fail
          apply cut_two (H := fun W => Below w15.heap.size w15 W)
          case h1 =>
            intro hc
            refine wp_region_held_drew (S := fun W => Below w15.heap.size w15 W) (by kernel_rfl) ((Below.refl _ _).drew) (fun hHeld => ?_)
            obtain ⟨X, hX⟩ : ∃ X, w15.drew = X := ⟨_, rfl⟩
            rw [hX] at hHeld ⊢
            clear hX
            refine tk 0 177 (.int .i64 (s1 : Int)) rfl hHeld ?_
            simp only [Act.put, sA, sZ, sS]
            refine tk 1 178 (.slice (some ⟨fb, fo, none⟩) len cap) rfl hHeld ?_
            simp only [Act.put, sA, sZ, sS]
            refine tk 2 179 (.int .i64 (pt : Int)) rfl hHeld ?_
            simp only [Act.put, sA, sZ, sS]
            refine tk 3 180 (.pointer (some ⟨fb, fo + pt, none⟩)) rfl hHeld ?_
            simp only [Act.put, sA, sZ, sS]
            refine tkY 4 181 (.int .u8 (ba : Int)) rfl (Or.inl ⟨by rfl, fun W hW => by have hc := (HFC.out W hW).1; go_simp⟩) hHeld ?_
            simp only [Act.put, sA, sZ, sS]
            refine tk 5 182 (.slice (some ⟨fb, fo, none⟩) len cap) rfl hHeld ?_
            simp only [Act.put, sA, sZ, sS]
            refine tk 6 183 (.int .i64 (pt : Int)) rfl hHeld ?_
            simp only [Act.put, sA, sZ, sS]
            refine tk 7 184 (.int .i64 ((pt : Int) + 1)) rfl hHeld ?_
            simp only [Act.put, sA, sZ, sS]
            refine tk 8 185 (.pointer (some ⟨fb, fo + (pt + 1), none⟩)) rfl hHeld ?_
            simp only [Act.put, sA, sZ, sS]
            refine tkY 9 186 (.int .u8 (bb : Int)) rfl (Or.inl ⟨by rfl, fun W hW => by have hc := (HFC.out W hW).2; go_simp⟩) hHeld ?_
            simp only [Act.put, sA, sZ, sS]
            refine tk 11 188 (.int .i64 (mn : Int)) rfl hHeld ?_
            simp only [Act.put, sA, sZ, sS]
            refine tk 12 189 (.int .i64 ((mn : Int) / 256)) rfl hHeld ?_
            simp only [Act.put, sA, sZ, sS]
            refine tk 13 190 (.int .u8 ((mn : Int) / 256)) rfl hHeld ?_
            simp only [Act.put, sA, sZ, sS]
            refine tk 14 191 (.int .i64 (mn : Int)) rfl hHeld ?_
            simp only [Act.put, sA, sZ, sS]
            refine tk 15 192 (.int .i64 ((mn : Int) % 256)) rfl hHeld ?_
            simp only [Act.put, sA, sZ, sS]
            refine tk 16 193 (.int .u8 ((mn : Int) % 256)) rfl hHeld ?_
            simp only [Act.put, sA, sZ, sS]
            refine wpAnyH_ready (rs := [10, 17]) (by kernel_rfl) (by simp) (AllReadyH.cons (o := ⟨some 187, _, _, _, _, _⟩) rfl (fun K hK => ?_) (AllReadyH.cons (o := ⟨some 194, _, _, _, _, _⟩) rfl (fun K hK => ?_) AllReadyH.nil))
            · go_simp
              rw [HOPC.out]
              have HA1 : Hid (Row8 (X.alloc (.cells (oldp.map v8).toArray 5)) X.heap.size oldp) := Lib.hid (heap_alloc_new X _)
              have HH := Lib.hid (hHeld.alloc hHeld.size (.cells (oldp.map v8).toArray 5))
              generalize X.alloc (.cells (oldp.map v8).toArray 5) = X1 at HA1 HH ⊢
              generalize X.heap.size = ga at HA1 ⊢
              refine hK.out _ _ (HH.out) (fun hHeld => ?_)
              clear hK K HH
              refine wpAnyH_ready (rs := [17]) (by kernel_rfl) (by simp) (AllReadyH.cons (o := ⟨some 194, _, _, _, _, _⟩) rfl (fun K hK => ?_) AllReadyH.nil)
              go_simp
              have HA2 := Lib.hid (HNEW2.out X1)
              have HH := Lib.hid (hHeld.alloc hHeld.size (.cells #[.int .u8 ((mn : Int) / 256), .int .u8 ((mn : Int) % 256)] 5))
              have HB1 := Lib.hid (HA1.out.alloc (.cells #[.int .u8 ((mn : Int) / 256), .int .u8 ((mn : Int) % 256)] 5))
              clear HA1
              have HA1 := HB1
              clear HB1
              generalize X1.alloc (.cells #[.int .u8 ((mn : Int) / 256), .int .u8 ((mn : Int) % 256)] 5) = X2 at HA2 HH HA1 ⊢
              generalize X1.heap.size = gb at HA2 ⊢
              refine hK.out _ _ (HH.out) (fun hHeld => ?_)
              clear hK K HH
              refine wpAnyH_ready (rs := [18]) (by kernel_rfl) (by simp) (AllReadyH.cons (o := ⟨some 195, _, _, _, _, _⟩) rfl (fun K hK => ?_) AllReadyH.nil)
              go_simp
              refine (HC2S.out X2 (some ⟨ga, 0, none⟩) (some ⟨gb, 0, none⟩) 2 2 (OPL.out ▸ HA1.out.rd HA1.out.lt) (HA2.out.rd HA2.out.lt)).mono ?_
              rintro e w17 ⟨rfl, hb17⟩
              refine hK.out _ _ (hHeld.trans (hb17.mono hHeld.size)) (fun hHeld => ?_)
              clear hK K hb17
              refine tk 19 22 (.int .i64 (s2 : Int)) rfl hHeld ?_
              simp only [Act.put, sA, sZ, sS]
              refine wpAnyH_done (by kernel_rfl) ?_ _
              exact hc w17 ga gb hHeld
            · go_simp
              have HA2 := Lib.hid (HNEW2.out X)
              have HH := Lib.hid (hHeld.alloc hHeld.size (.cells #[.int .u8 ((mn : Int) / 256), .int .u8 ((mn : Int) % 256)] 5))
              generalize X.alloc (.cells #[.int .u8 ((mn : Int) / 256), .int .u8 ((mn : Int) % 256)] 5) = X1 at HA2 HH ⊢
              generalize X.heap.size = gb at HA2 ⊢
              refine hK.out _ _ (HH.out) (fun hHeld => ?_)
              clear hK K HH
              refine wpAnyH_ready (rs := [10]) (by kernel_rfl) (by simp) (AllReadyH.cons (o := ⟨some 187, _, _, _, _, _⟩) rfl (fun K hK => ?_) AllReadyH.nil)
              go_simp
              rw [HOPC.out]
              have HA1 : Hid (Row8 (X1.alloc (.cells (oldp.map v8).toArray 5)) X1.heap.size oldp) := Lib.hid (heap_alloc_new X1 _)
              have HH := Lib.hid (hHeld.alloc hHeld.size (.cells (oldp.map v8).toArray 5))
              have HB2 := Lib.hid (HA2.out.alloc (.cells (oldp.map v8).toArray 5))
              clear HA2
              have HA2 := HB2
              clear HB2
              generalize X1.alloc (.cells (oldp.map v8).toArray 5) = X2 at HA1 HH HA2 ⊢
              generalize X1.heap.size = ga at HA1 ⊢
              refine hK.out _ _ (HH.out) (fun hHeld => ?_)
              clear hK K HH
              refine wpAnyH_ready (rs := [18]) (by kernel_rfl) (by simp) (AllReadyH.cons (o := ⟨some 195, _, _, _, _, _⟩) rfl (fun K hK => ?_) AllReadyH.nil)
              go_simp
              refine (HC2S.out X2 (some ⟨ga, 0, none⟩) (some ⟨gb, 0, none⟩) 2 2 (OPL.out ▸ HA1.out.rd HA1.out.lt) (HA2.out.rd HA2.out.lt)).mono ?_
              rintro e w17 ⟨rfl, hb17⟩
              refine hK.out _ _ (hHeld.trans (hb17.mono hHeld.size)) (fun hHeld => ?_)
              clear hK K hb17
              refine tk 19 22 (.int .i64 (s2 : Int)) rfl hHeld ?_
              simp only [Act.put, sA, sZ, sS]
              refine wpAnyH_done (by kernel_rfl) ?_ _
              exact hc w17 ga gb hHeld
          case h2 =>
          intro w17 ga gb hHeld
          have hh := hHeld
          have K16 := Lib.hid (K15.out.below hh)
          have HO16 := Lib.hid (HO15.out.below hh)
          clear hh hHeld f1 f2 f3 f4
          obtain ⟨k39, k40, k41, k35⟩ := HKC.out _ G K16.out.p
          clear k39 k40 k41
          by_cases hs0 : s2 = 0
          · subst hs0
            have HEQ := Lib.hid (HNE.out 65535 (if_pos ⟨rfl, rfl⟩))
            have b1 : (((0 : Nat) : Int) == 0) = true := rfl
            have ES1 := Lib.hid (show ((UInt8.ofNat (65535 / 256)).toNat : Int) = 255 from rfl)
            have ES2 := Lib.hid (show ((UInt8.ofNat (65535 % 256)).toNat : Int) = 255 from rfl)
            have HS18 := Lib.hid (show (Z3.set ck (UInt8.ofNat (65535 / 256))).set (ck + 1) (UInt8.ofNat (65535 % 256)) = setL Z3 ck (be2 65535) from put2_setL Z3 ck 65535)
            go_wp2_with (first
              | ((with_reducible show wpList _ _ _ (⟨none, .store 5 (.tmp 209) _, _, _, _, _⟩ :: _) _ _); refine wpList_storeOG rfl (.tmp 209) _ rfl g ck (by rfl) (UInt8.ofNat (65535 / 256)) _ ES1.out.symm (by rfl) Z3 E c4 w3.heap.size Z3L.out HO16.out L1.out ?_; intro w18a ho18a hg18a; have HO18a := Lib.hid ho18a; have K18a := Lib.hid (K16.out.gb hg18a HG5.out HG4.out HGg.out HWg.out); clear ho18a hg18a)
              | ((with_reducible show wpList _ _ _ (⟨none, .store 5 (.tmp 216) _, _, _, _, _⟩ :: _) _ _); refine wpList_storeOG rfl (.tmp 216) _ rfl g (ck + 1) (by rfl) (UInt8.ofNat (65535 % 256)) _ ES2.out.symm (by rfl) _ E c4 w3.heap.size (by rw [List.length_set]; exact Z3L.out) HO18a.out L2.out ?_; intro w18 ho18 hg18; rw [HS18.out] at ho18; have HO18 := Lib.hid ho18; have K18 := Lib.hid (K18a.out.gb hg18 HG5.out HG4.out HGg.out HWg.out); clear ho18 hg18))
            go_ret2
            exact ⟨.slice (some ⟨g, 0, none⟩) E c4, rfl, by rw [← HEQ.out]; exact HO18.out.base_le HB3.out.size, K18.out.b⟩
          · have HEQ := Lib.hid (HNE.out s2 (if_neg (fun h => hs0 h.2)))
            have c1' : ((s2 : Int) == 0) = false := by simp; omega
            have c2' : (s2 == 0) = false := by simp [hs0]
            clear hs0
            have g1' : IntKind.i64.wrap ((s2 : Int) / 256) = (s2 : Int) / 256 := by have := N2.out; rw [IntKind.wrap_i64]; omega
            have g2' : IntKind.u8.wrap ((s2 : Int) / 256) = (s2 : Int) / 256 := by have := N2.out; rw [IntKind.wrap_u8]; omega
            have g3' : IntKind.u8.wrap ((s2 : Int) % 256) = (s2 : Int) % 256 := by rw [IntKind.wrap_u8]; omega
            have g4' : Int.tdiv (s2 : Int) 256 = (s2 : Int) / 256 := Int.tdiv_eq_ediv_of_nonneg (by omega)
            have g5' : Int.tmod (s2 : Int) 256 = (s2 : Int) % 256 := Int.tmod_eq_emod_of_nonneg (by omega)
            have ES1 := Lib.hid (show ((UInt8.ofNat (s2 / 256)).toNat : Int) = (s2 : Int) / 256 by have := N2.out; rw [u8nat (by omega)]; omega)
            have ES2 := Lib.hid (show ((UInt8.ofNat (s2 % 256)).toNat : Int) = (s2 : Int) % 256 by rw [u8nat (by omega)]; omega)
            have HS18 := Lib.hid (show (Z3.set ck (UInt8.ofNat (s2 / 256))).set (ck + 1) (UInt8.ofNat (s2 % 256)) = setL Z3 ck (be2 s2) from put2_setL Z3 ck s2)
            go_wp2_with (first
              | ((with_reducible show wpList _ _ _ (⟨none, .store 5 (.tmp 209) _, _, _, _, _⟩ :: _) _ _); refine wpList_storeOG rfl (.tmp 209) _ rfl g ck (by rfl) (UInt8.ofNat (s2 / 256)) _ ES1.out.symm (by rfl) Z3 E c4 w3.heap.size Z3L.out HO16.out L1.out ?_; intro w18a ho18a hg18a; have HO18a := Lib.hid ho18a; have K18a := Lib.hid (K16.out.gb hg18a HG5.out HG4.out HGg.out HWg.out); clear ho18a hg18a)
              | ((with_reducible show wpList _ _ _ (⟨none, .store 5 (.tmp 216) _, _, _, _, _⟩ :: _) _ _); refine wpList_storeOG rfl (.tmp 216) _ rfl g (ck + 1) (by rfl) (UInt8.ofNat (s2 % 256)) _ ES2.out.symm (by rfl) _ E c4 w3.heap.size (by rw [List.length_set]; exact Z3L.out) HO18a.out L2.out ?_; intro w18 ho18 hg18; rw [HS18.out] at ho18; have HO18 := Lib.hid ho18; have K18 := Lib.hid (K18a.out.gb hg18 HG5.out HG4.out HGg.out HWg.out); clear ho18 hg18))
            go_ret2
            exact ⟨.slice (some ⟨g, 0, none⟩) E c4, rfl, by rw [← HEQ.out]; exact HO18.out.base_le HB3.out.size, K18.out.b⟩
      | false =>
        have e6 : PN = 6 := HPN.out.symm
        subst e6
        have HNE := Lib.hid (HNID.out (fun h => Bool.noConfusion h.1))
        clear hwc
        go_wp2_with fail
        refine (CH1.out _ (Below.refl _ _)).mono ?_
        rintro e w15 ⟨rfl, hb15⟩
        have K15 := Lib.hid (Kq.out.below hb15)
        have HO15 := Lib.hid (HOq.out.below hb15)
        clear hb15 k35
        obtain ⟨fb, fo, hfa, _⟩ := (HFP.out w15 K15.out.b).addr (by have := HIN.out; omega)
        have HFC := Lib.hid (fun W (hW : Below w15.heap.size w15 W) => show W.cell? ⟨fb, fo + pt, none⟩ = some (.int .u8 (batN xs pt : Int)) ∧ W.cell? ⟨fb, fo + (pt + 1), none⟩ = some (.int .u8 (batN xs (pt + 1) : Int)) from by
          have hr := HFP.out W (K15.out.b.trans (hW.mono K15.out.b.size))
          rw [hfa] at hr
          exact ⟨hr.cellD (k := pt) (by have := HIN.out; omega), hr.cellD (k := pt + 1) (by have := HIN.out; omega)⟩)
        have HOPC := Lib.hid (show (#[.int .u8 (batN xs pt : Int), .int .u8 (batN xs (pt + 1) : Int)] : Array Value) = (oldp.map v8).toArray by
          have := two_be2 xs pt (by rw [HXL.out]; exact HIN.out)
          rw [HOPX.out] at this
          rw [← this]
          have x0 := batN_lt xs pt
          have x1 := batN_lt xs (pt + 1)
          rw [← be2_cellsN (wat xs pt) (wat_lt xs pt)]
          have e : wat xs pt = 256 * batN xs pt + batN xs (pt + 1) := rfl
          rw [show ((wat xs pt : Nat) : Int) / 256 = (batN xs pt : Int) by omega, show ((wat xs pt : Nat) : Int) % 256 = (batN xs (pt + 1) : Int) by omega])
        generalize batN xs pt = ba at HFC HOPC
        generalize batN xs (pt + 1) = bb at HFC HOPC
        have f1 : (pt : Int) < (len : Int) := by have := HIN.out; omega
        have f2 : (pt : Int) + 1 < (len : Int) := by have := HIN.out; omega
        have f3 : ((pt : Int) + 1).toNat = pt + 1 := by omega
        have f4 : ¬ (pt : Int) + 1 < 0 := by omega
        subst hfa
        go_wp2_with fail
        apply cut_two (H := fun W => Below w15.heap.size w15 W)
        case h1 =>
          intro hc
          refine wp_region_held_drew (S := fun W => Below w15.heap.size w15 W) (by kernel_rfl) ((Below.refl _ _).drew) (fun hHeld => ?_)
          obtain ⟨X, hX⟩ : ∃ X, w15.drew = X := ⟨_, rfl⟩
          rw [hX] at hHeld ⊢
          clear hX
          refine tk 0 177 (.int .i64 (s1 : Int)) rfl hHeld ?_
          simp only [Act.put, sA, sZ, sS]
          refine tk 1 178 (.slice (some ⟨fb, fo, none⟩) len cap) rfl hHeld ?_
          simp only [Act.put, sA, sZ, sS]
          refine tk 2 179 (.int .i64 (pt : Int)) rfl hHeld ?_
          simp only [Act.put, sA, sZ, sS]
          refine tk 3 180 (.pointer (some ⟨fb, fo + pt, none⟩)) rfl hHeld ?_
          simp only [Act.put, sA, sZ, sS]
          refine tkY 4 181 (.int .u8 (ba : Int)) rfl (Or.inl ⟨by rfl, fun W hW => by have hc := (HFC.out W hW).1; go_simp⟩) hHeld ?_
          simp only [Act.put, sA, sZ, sS]
          refine tk 5 182 (.slice (some ⟨fb, fo, none⟩) len cap) rfl hHeld ?_
          simp only [Act.put, sA, sZ, sS]
          refine tk 6 183 (.int .i64 (pt : Int)) rfl hHeld ?_
          simp only [Act.put, sA, sZ, sS]
          refine tk 7 184 (.int .i64 ((pt : Int) + 1)) rfl hHeld ?_
          simp only [Act.put, sA, sZ, sS]
          refine tk 8 185 (.pointer (some ⟨fb, fo + (pt + 1), none⟩)) rfl hHeld ?_
          simp only [Act.put, sA, sZ, sS]
          refine tkY 9 186 (.int .u8 (bb : Int)) rfl (Or.inl ⟨by rfl, fun W hW => by have hc := (HFC.out W hW).2; go_simp⟩) hHeld ?_
          simp only [Act.put, sA, sZ, sS]
          refine tk 11 188 (.int .i64 (mn : Int)) rfl hHeld ?_
          simp only [Act.put, sA, sZ, sS]
          refine tk 12 189 (.int .i64 ((mn : Int) / 256)) rfl hHeld ?_
          simp only [Act.put, sA, sZ, sS]
          refine tk 13 190 (.int .u8 ((mn : Int) / 256)) rfl hHeld ?_
          simp only [Act.put, sA, sZ, sS]
          refine tk 14 191 (.int .i64 (mn : Int)) rfl hHeld ?_
          simp only [Act.put, sA, sZ, sS]
          refine tk 15 192 (.int .i64 ((mn : Int) % 256)) rfl hHeld ?_
          simp only [Act.put, sA, sZ, sS]
          refine tk 16 193 (.int .u8 ((mn : Int) % 256)) rfl hHeld ?_
          simp only [Act.put, sA, sZ, sS]
          refine wpAnyH_ready (rs := [10, 17]) (by kernel_rfl) (by simp) (AllReadyH.cons (o := ⟨some 187, _, _, _, _, _⟩) rfl (fun K hK => ?_) (AllReadyH.cons (o := ⟨some 194, _, _, _, _, _⟩) rfl (fun K hK => ?_) AllReadyH.nil))
          · go_simp
            rw [HOPC.out]
            have HA1 : Hid (Row8 (X.alloc (.cells (oldp.map v8).toArray 5)) X.heap.size oldp) := Lib.hid (heap_alloc_new X _)
            have HH := Lib.hid (hHeld.alloc hHeld.size (.cells (oldp.map v8).toArray 5))
            generalize X.alloc (.cells (oldp.map v8).toArray 5) = X1 at HA1 HH ⊢
            generalize X.heap.size = ga at HA1 ⊢
            refine hK.out _ _ (HH.out) (fun hHeld => ?_)
            clear hK K HH
            refine wpAnyH_ready (rs := [17]) (by kernel_rfl) (by simp) (AllReadyH.cons (o := ⟨some 194, _, _, _, _, _⟩) rfl (fun K hK => ?_) AllReadyH.nil)
            go_simp
            have HA2 := Lib.hid (HNEW2.out X1)
            have HH := Lib.hid (hHeld.alloc hHeld.size (.cells #[.int .u8 ((mn : Int) / 256), .int .u8 ((mn : Int) % 256)] 5))
            have HB1 := Lib.hid (HA1.out.alloc (.cells #[.int .u8 ((mn : Int) / 256), .int .u8 ((mn : Int) % 256)] 5))
            clear HA1
            have HA1 := HB1
            clear HB1
            generalize X1.alloc (.cells #[.int .u8 ((mn : Int) / 256), .int .u8 ((mn : Int) % 256)] 5) = X2 at HA2 HH HA1 ⊢
            generalize X1.heap.size = gb at HA2 ⊢
            refine hK.out _ _ (HH.out) (fun hHeld => ?_)
            clear hK K HH
            refine wpAnyH_ready (rs := [18]) (by kernel_rfl) (by simp) (AllReadyH.cons (o := ⟨some 195, _, _, _, _, _⟩) rfl (fun K hK => ?_) AllReadyH.nil)
            go_simp
            refine (HC2S.out X2 (some ⟨ga, 0, none⟩) (some ⟨gb, 0, none⟩) 2 2 (OPL.out ▸ HA1.out.rd HA1.out.lt) (HA2.out.rd HA2.out.lt)).mono ?_
            rintro e w17 ⟨rfl, hb17⟩
            refine hK.out _ _ (hHeld.trans (hb17.mono hHeld.size)) (fun hHeld => ?_)
            clear hK K hb17
            refine tk 19 22 (.int .i64 (s2 : Int)) rfl hHeld ?_
            simp only [Act.put, sA, sZ, sS]
            refine wpAnyH_done (by kernel_rfl) ?_ _
            exact hc w17 ga gb hHeld
          · go_simp
            have HA2 := Lib.hid (HNEW2.out X)
            have HH := Lib.hid (hHeld.alloc hHeld.size (.cells #[.int .u8 ((mn : Int) / 256), .int .u8 ((mn : Int) % 256)] 5))
            generalize X.alloc (.cells #[.int .u8 ((mn : Int) / 256), .int .u8 ((mn : Int) % 256)] 5) = X1 at HA2 HH ⊢
            generalize X.heap.size = gb at HA2 ⊢
            refine hK.out _ _ (HH.out) (fun hHeld => ?_)
            clear hK K HH
            refine wpAnyH_ready (rs := [10]) (by kernel_rfl) (by simp) (AllReadyH.cons (o := ⟨some 187, _, _, _, _, _⟩) rfl (fun K hK => ?_) AllReadyH.nil)
            go_simp
            rw [HOPC.out]
            have HA1 : Hid (Row8 (X1.alloc (.cells (oldp.map v8).toArray 5)) X1.heap.size oldp) := Lib.hid (heap_alloc_new X1 _)
            have HH := Lib.hid (hHeld.alloc hHeld.size (.cells (oldp.map v8).toArray 5))
            have HB2 := Lib.hid (HA2.out.alloc (.cells (oldp.map v8).toArray 5))
            clear HA2
            have HA2 := HB2
            clear HB2
            generalize X1.alloc (.cells (oldp.map v8).toArray 5) = X2 at HA1 HH HA2 ⊢
            generalize X1.heap.size = ga at HA1 ⊢
            refine hK.out _ _ (HH.out) (fun hHeld => ?_)
            clear hK K HH
            refine wpAnyH_ready (rs := [18]) (by kernel_rfl) (by simp) (AllReadyH.cons (o := ⟨some 195, _, _, _, _, _⟩) rfl (fun K hK => ?_) AllReadyH.nil)
            go_simp
            refine (HC2S.out X2 (some ⟨ga, 0, none⟩) (some ⟨gb, 0, none⟩) 2 2 (OPL.out ▸ HA1.out.rd HA1.out.lt) (HA2.out.rd HA2.out.lt)).mono ?_
            rintro e w17 ⟨rfl, hb17⟩
            refine hK.out _ _ (hHeld.trans (hb17.mono hHeld.size)) (fun hHeld => ?_)
            clear hK K hb17
            refine tk 19 22 (.int .i64 (s2 : Int)) rfl hHeld ?_
            simp only [Act.put, sA, sZ, sS]
            refine wpAnyH_done (by kernel_rfl) ?_ _
            exact hc w17 ga gb hHeld
        case h2 =>
        intro w17 ga gb hHeld
        have hh := hHeld
        have K16 := Lib.hid (K15.out.below hh)
        have HO16 := Lib.hid (HO15.out.below hh)
        clear hh hHeld f1 f2 f3 f4
        obtain ⟨k39, k40, k41, k35⟩ := HKC.out _ G K16.out.p
        clear k39 k40 k41
        have HEQ := Lib.hid (HNE.out s2 (if_neg (fun h => Bool.noConfusion h.1)))
        have g1' : IntKind.i64.wrap ((s2 : Int) / 256) = (s2 : Int) / 256 := by have := N2.out; rw [IntKind.wrap_i64]; omega
        have g2' : IntKind.u8.wrap ((s2 : Int) / 256) = (s2 : Int) / 256 := by have := N2.out; rw [IntKind.wrap_u8]; omega
        have g3' : IntKind.u8.wrap ((s2 : Int) % 256) = (s2 : Int) % 256 := by rw [IntKind.wrap_u8]; omega
        have g4' : Int.tdiv (s2 : Int) 256 = (s2 : Int) / 256 := Int.tdiv_eq_ediv_of_nonneg (by omega)
        have g5' : Int.tmod (s2 : Int) 256 = (s2 : Int) % 256 := Int.tmod_eq_emod_of_nonneg (by omega)
        have ES1 := Lib.hid (show ((UInt8.ofNat (s2 / 256)).toNat : Int) = (s2 : Int) / 256 by have := N2.out; rw [u8nat (by omega)]; omega)
        have ES2 := Lib.hid (show ((UInt8.ofNat (s2 % 256)).toNat : Int) = (s2 : Int) % 256 by rw [u8nat (by omega)]; omega)
        have HS18 := Lib.hid (show (Z3.set ck (UInt8.ofNat (s2 / 256))).set (ck + 1) (UInt8.ofNat (s2 % 256)) = setL Z3 ck (be2 s2) from put2_setL Z3 ck s2)
        go_wp2_with (first
          | ((with_reducible show wpList _ _ _ (⟨none, .store 5 (.tmp 209) _, _, _, _, _⟩ :: _) _ _); refine wpList_storeOG rfl (.tmp 209) _ rfl g ck (by rfl) (UInt8.ofNat (s2 / 256)) _ ES1.out.symm (by rfl) Z3 E c4 w3.heap.size Z3L.out HO16.out L1.out ?_; intro w18a ho18a hg18a; have HO18a := Lib.hid ho18a; have K18a := Lib.hid (K16.out.gb hg18a HG5.out HG4.out HGg.out HWg.out); clear ho18a hg18a)
          | ((with_reducible show wpList _ _ _ (⟨none, .store 5 (.tmp 216) _, _, _, _, _⟩ :: _) _ _); refine wpList_storeOG rfl (.tmp 216) _ rfl g (ck + 1) (by rfl) (UInt8.ofNat (s2 % 256)) _ ES2.out.symm (by rfl) _ E c4 w3.heap.size (by rw [List.length_set]; exact Z3L.out) HO18a.out L2.out ?_; intro w18 ho18 hg18; rw [HS18.out] at ho18; have HO18 := Lib.hid ho18; have K18 := Lib.hid (K18a.out.gb hg18 HG5.out HG4.out HGg.out HWg.out); clear ho18 hg18))
        go_ret2
        exact ⟨.slice (some ⟨g, 0, none⟩) E c4, rfl, by rw [← HEQ.out]; exact HO18.out.base_le HB3.out.size, K18.out.b⟩
end Go.Proofs.Ytkmcopenflakkaa
