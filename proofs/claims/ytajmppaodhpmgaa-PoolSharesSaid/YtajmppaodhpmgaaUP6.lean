/-
  The program: same (of backends); whole backends compared.
  The program: slices.EqualFunc of backends, Same of pools.
-/
import Derived.Test.YtajmppaodhpmgaaUP3
import Derived.Test.YtajmppaodhpmgaaURef8
import Derived.Test.YtajmppaodhpmgaaUBld
import Derived.ChangeKeysEq
namespace Go.Proofs.Ytajmppaodhpmgaa
set_option maxRecDepth 100000
open Go.RowKit Go.Lib

def bkE (a b : Bk) : Bool := (a.nm == b.nm) && (adB a.ad b.ad && ((a.port == b.port) && (decide (a.mac = b.mac) && (a.dr == b.dr))))
theorem bkQ_E (a b : Bk) : bkQ a b = (bkE a b && decide (canW a.wt = canW b.wt)) := by
  unfold bkQ bkE
  have e2 : (a.port == b.port) = decide (a.port = b.port) := by
    by_cases h : a.port = b.port
    · rw [decide_eq_true h, beq_iff_eq.2 h]
    · rw [decide_eq_false h, beq_eq_false_iff_ne.2 h]
  have e3 : (a.dr == b.dr) = decide (a.dr = b.dr) := by cases a.dr <;> cases b.dr <;> rfl
  rw [e2, e3]
  by_cases h : a.nm = b.nm
  · rw [decide_eq_true h, beq_iff_eq.2 h]
    simp only [Bool.true_and, Bool.and_assoc]
  · rw [decide_eq_false h, beq_eq_false_iff_ne.2 h]
    rfl
theorem plainS : Try.prog.plainKey 9 = true := by kernel_rfl
theorem plainI : Try.prog.plainKey 3 = true := by kernel_rfl
theorem partS (w : World) {cs : List Value} {v : Value} {o : Nat} (h : cs[o]? = some v) : (part 9 cs.toArray o).run Try.prog w = .ok v w := run_part_plain w plainS (by simpa using h)
theorem partI (w : World) {cs : List Value} {v : Value} {o : Nat} (h : cs[o]? = some v) : (part 3 cs.toArray o).run Try.prog w = .ok v w := run_part_plain w plainI (by simpa using h)
theorem partF (w : World) {cs : List Value} {v : Value} {o : Nat} (h : cs[o]? = some v) : (part 34 cs.toArray o).run Try.prog w = .ok v w := by
  unfold part
  have e : (isAgg 34).run Try.prog w = .ok false w := by kernel_rfl
  have h2 : cs.toArray[o]? = some v := by simpa using h
  simp [e, h2]
theorem infoAd : ∃ i, Try.prog.info? 32 = some i := info_of_underlying Try.underlying32
theorem cellsAd : Try.prog.cellsOf 32 = 17 := by kernel_rfl
theorem partA (w : World) {cs : List Value} {a : Ad} {o : Nat} (h : (cs.drop o).take 17 = adL a) : (part 32 cs.toArray o).run Try.prog w = .ok (adC a) w := by
  obtain ⟨i, hi⟩ := infoAd
  have e : cs.toArray.extract o (o + 17) = (adL a).toArray := by
    rw [← h]; simp [List.extract_eq_take_drop]
  unfold part isAgg
  simp only [Sem.run_bind, run_underlying Try.underlying32, Result.andThen_ok, Sem.run_pure, if_true, run_sizeOf w hi, cellsAd, e, adC]
theorem infoM6 : ∃ i, Try.prog.info? 33 = some i := info_of_underlying Try.underlying33
theorem cellsM6 : Try.prog.cellsOf 33 = 6 := by kernel_rfl
theorem partM (w : World) {cs : List Value} {m : List UInt8} {o : Nat} (h : (cs.drop o).take 6 = m.map v8) : (part 33 cs.toArray o).run Try.prog w = .ok (.agg (m.map v8).toArray) w := by
  obtain ⟨i, hi⟩ := infoM6
  have e : cs.toArray.extract o (o + 6) = (m.map v8).toArray := by
    rw [← h]; simp [List.extract_eq_take_drop]
  unfold part isAgg
  simp only [Sem.run_bind, run_underlying Try.underlying33, Result.andThen_ok, Sem.run_pure, if_true, run_sizeOf w hi, cellsM6, e]
theorem underBk : Try.prog.underlying 36 = some (.struct (Try.prog.fieldsOf 36)) := by kernel_rfl
theorem heldBk : Try.prog.stoodInHeld 36 = false := by kernel_rfl
theorem guardBk : Try.prog.eqGuardType Try.prog.depth 36 = false := by kernel_rfl
theorem fieldsBk : ∃ o : Nat → Nat, (Try.prog.fieldsOf 36).toList = [⟨ "Name", 9, 0, false, "", "", o 0⟩, ⟨ "Addr", 32, 1, false, "", "", o 1⟩, ⟨ "Port", 3, 18, false, "", "", o 2⟩, ⟨ "Mac", 33, 19, false, "", "", o 3⟩, ⟨ "Weight", 34, 25, false, "", "", o 4⟩, ⟨ "Drain", 4, 26, false, "", "", o 5⟩] :=
  ⟨fun i => ((Try.prog.fieldsOf 36).toList[i]?.map (·.byteOffset)).getD 0, by kernel_rfl⟩
theorem bk_take_ad (b : Bk) : ((bkL b).drop 1).take 17 = adL b.ad := by
  have e : (adL b.ad).length = 17 := adL_len b.hb
  unfold bkL
  rw [List.drop_succ_cons, List.drop_zero, ← e, List.take_left]
theorem bk_take_mac (b : Bk) : ((bkL b).drop 19).take 6 = b.mac.map v8 := by
  have e : (adL b.ad).length = 17 := adL_len b.hb
  have e6 : (b.mac.map v8).length = 6 := by rw [List.length_map, b.hm]
  unfold bkL
  rw [show 19 = 18 + 1 from rfl, List.drop_succ_cons, show 18 = (adL b.ad).length + 1 by rw [e], ← List.drop_drop, List.drop_left, List.drop_succ_cons, List.drop_zero, ← e6, List.take_left]
theorem run_eqF0 (w : World) (d : Nat) : (Op.equalIn (d + 1) 34 (.float .f64 0) (.float .f64 0)).run Try.prog w = .ok true w := by
  have h9 : (FloatKind.f64.format.order 0 0 == some Ordering.eq) = true := (zero_order (u := 0) (by decide)).trans (decide_eq_true (by decide))
  simp [Op.equalIn, run_underlying Try.underlying34, Op.floatEq, h9]
set_option maxHeartbeats 1000000 in
theorem run_eqs_bk (w : World) (a b : Bk) (ha : a.wt = 0) (hb : b.wt = 0) : (Op.equalIn 10000 36 (.agg (bkL a).toArray) (.agg (bkL b).toArray)).run Try.prog w = .ok (bkE a b) w := by
  have e0 : (Op.equalIn 9999 9 (strV a.nm) (strV b.nm)).run Try.prog w = .ok (a.nm == b.nm) w := by
    unfold strV
    rw [show 9999 = 9998 + 1 from rfl, run_equalIn_string w 9998 9 _ _ Try.underlying9, ByteArray.toList_mk, ByteArray.toList_mk]
  have e1 : (Op.equalIn 9999 32 (adC a.ad) (adC b.ad)).run Try.prog w = .ok (adB a.ad b.ad) w := run_eq_ad w 9996 a.hb b.hb
  have e2 : (Op.equalIn 9999 3 (.int .i64 a.port) (.int .i64 b.port)).run Try.prog w = .ok (a.port == b.port) w := run_equalIn_int w 9998 3 .i64 _ a.port b.port Try.underlying3
  have e3 : (Op.equalIn 9999 33 (.agg (a.mac.map v8).toArray) (.agg (b.mac.map v8).toArray)).run Try.prog w = .ok (decide (a.mac = b.mac)) w := run_eqs6 w 9997 a.hm b.hm
  have e4 : (Op.equalIn 9999 34 (.float .f64 a.wt) (.float .f64 b.wt)).run Try.prog w = .ok true w := by
    rw [ha, hb]
    exact run_eqF0 w 9998
  have e5 : (Op.equalIn 9999 4 (.bool a.dr) (.bool b.dr)).run Try.prog w = .ok (a.dr == b.dr) w := run_equalIn_bool' w 9998 4 a.dr b.dr Try.underlying4
  rw [show 10000 = 9999 + 1 from rfl, run_equalIn_agg w 9999 _ _ _ underBk heldBk]
  obtain ⟨o, hf⟩ := fieldsBk
  rw [hf, run_fields w 9999 _ _ (fun i => if i = 0 then a.nm == b.nm else if i = 1 then adB a.ad b.ad else if i = 2 then a.port == b.port else if i = 3 then decide (a.mac = b.mac) else if i = 4 then true else a.dr == b.dr) _ 0 ?_]
  · simp [List.range', bkE]
  · intro j f hj
    match j, hj with
    | 0, hj => cases hj; exact ⟨show ("Name" : String) ≠ "_" by decide, _, _, partS w (bk_nm a), partS w (bk_nm b), e0⟩
    | 1, hj => cases hj; exact ⟨show ("Addr" : String) ≠ "_" by decide, _, _, partA w (bk_take_ad a), partA w (bk_take_ad b), e1⟩
    | 2, hj => cases hj; exact ⟨show ("Port" : String) ≠ "_" by decide, _, _, partI w (bk_port a), partI w (bk_port b), e2⟩
    | 3, hj => cases hj; exact ⟨show ("Mac" : String) ≠ "_" by decide, _, _, partM w (bk_take_mac a), partM w (bk_take_mac b), e3⟩
    | 4, hj => cases hj; exact ⟨show ("Weight" : String) ≠ "_" by decide, _, _, partF w (bk_wt a), partF w (bk_wt b), e4⟩
    | 5, hj => cases hj; exact ⟨show ("Drain" : String) ≠ "_" by decide, _, _, part_bool w (bk_dr a), part_bool w (bk_dr b), e5⟩
theorem run_eql_bk (w : World) (a b : Bk) (ha : a.wt = 0) (hb : b.wt = 0) : (binOp .eql 36 (.agg (bkL a).toArray) (.agg (bkL b).toArray)).run Try.prog w = .ok (.bool (bkE a b)) w := by
  rw [run_eql_struct, run_eqs_bk w a b ha hb, Result.andThen_ok]
def Bk.flat (b : Bk) : Bk := { b with wt := 0, hw := by decide }
theorem bkE_flat (a b : Bk) : bkE a.flat b.flat = bkE a b := rfl
set_option maxHeartbeats 4000000 in
theorem psameB_any (a b : Bk) (w : World) : Calls Try.prog 33 #[bkC a, bkC b] w fun e w' => e = .returned (.bool (bkQ a b)) ∧ Below w.heap.size w w' := by
  obtain ⟨Y, hY, ka, kb, hB⟩ := box_bk2 w a b
  have HSM := Lib.hid (fun W => wsame_eq a.hw b.hw W)
  have q4 := Blk_10.cell ka (bk_wt a)
  have p4 := Blk_10.cell kb (bk_wt b)
  have HV := Lib.hid (bkQ_E a b)
  unfold bkC
  obtain ⟨LA, hLA⟩ : ∃ L, (bkL a).toArray = L := ⟨_, rfl⟩
  obtain ⟨LB, hLB⟩ : ∃ L, (bkL b).toArray = L := ⟨_, rfl⟩
  rw [hLA, hLB]
  rw [hLA, hLB] at hY
  rw [← hY] at q4 p4 ka kb hB
  have HKA := Lib.hid ka
  have HKB := Lib.hid kb
  have HB := Lib.hid hB
  obtain ⟨FA, hFA⟩ : ∃ L, (bkL a.flat).toArray = L := ⟨_, rfl⟩
  obtain ⟨FB, hFB⟩ : ∃ L, (bkL b.flat).toArray = L := ⟨_, rfl⟩
  have HE := Lib.hid (fun W => run_eql_bk W a.flat b.flat rfl rfl)
  rw [hFA, hFB, bkE_flat] at HE
  have HFA := Lib.hid hFA
  have HFB := Lib.hid hFB
  obtain ⟨r, hr⟩ : ∃ r, bkQ a b = r := ⟨_, rfl⟩
  rw [hr] at HV
  rw [hr]
  obtain ⟨f, hf⟩ : ∃ f, bkE a b = f := ⟨_, rfl⟩
  rw [hf] at HE HV
  obtain ⟨u, hu⟩ : ∃ u, decide (canW a.wt = canW b.wt) = u := ⟨_, rfl⟩
  rw [hu] at HSM HV
  clear ka kb hB hY hLA hLB hFA hFB hr hf hu
  cases u
  · go_enter Try.func33, Try.ntmps33
    go_wp2_with (go_at_call 45; refine (HSM.out _).mono ?_; rintro e w2 ⟨rfl, rfl⟩)
    go_ret
    exact ⟨by rw [HV.out, Bool.and_false]; rfl, HB.out⟩
  · go_enter Try.func33, Try.ntmps33
    go_wp2_with (first
      | (go_at_call 45; refine (HSM.out _).mono ?_; rintro e w2 ⟨rfl, rfl⟩; clear q4 p4)
      | ((with_reducible show wpList _ _ _ (⟨none, .store _ (.tmp 11) _, _, _, _, _⟩ :: _) _ _); refine wpList_storeB1 rfl _ _ _ rfl w.heap.size 25 (by rfl) (.float .f64 0) (by rfl) _ (bkL a) HKA.out (by rw [bkL_len]; decide) (by kernel_rfl) rfl rfl ?_; intro w3 hb3 hg3; rw [bkL_wt a (u := 0) (by decide)] at hb3; have HA3 : Hid (Blk w3 36 w.heap.size (bkL a.flat)) := Lib.hid hb3; have HB3 := Lib.hid (Blk.gb HKB.out hg3 (by simp)); have HW3 := Lib.hid (below_gb HB.out hg3 (Nat.le_refl _) HB.out.size); clear hb3 hg3 HKA HKB HB)
      | ((with_reducible show wpList _ _ _ (⟨none, .store _ (.tmp 12) _, _, _, _, _⟩ :: _) _ _); refine wpList_storeB1 rfl _ _ _ rfl (w.heap.size + 1) 25 (by rfl) (.float .f64 0) (by rfl) _ (bkL b) HB3.out (by rw [bkL_len]; decide) (by kernel_rfl) rfl rfl ?_; intro w4 hb4 hg4; rw [bkL_wt b (u := 0) (by decide)] at hb4; have HB4 : Hid (Blk w4 36 (w.heap.size + 1) (bkL b.flat)) := Lib.hid hb4; have HA4 := Lib.hid (Blk.gb HA3.out hg4 (by simp)); have HW4 := Lib.hid (below_gb HW3.out hg4 (Nat.le_succ _) HW3.out.size); clear hb4 hg4 HA3 HB3 HW3)
      | ((with_reducible show wpList _ _ _ (⟨some 13, _, _, _, _, _⟩ :: _) _ _); refine wpList_loadBk (op := ⟨some 13, _, _, _, _, _⟩) _ rfl (by rfl) w.heap.size 0 (by rfl) a.flat (Blk_10.range HA4.out) _ HFA.out ?_)
      | ((with_reducible show wpList _ _ _ (⟨some 14, _, _, _, _, _⟩ :: _) _ _); refine wpList_loadBk (op := ⟨some 14, _, _, _, _, _⟩) _ rfl (by rfl) (w.heap.size + 1) 0 (by rfl) b.flat (Blk_10.range HB4.out) _ HFB.out ?_)
      | ((with_reducible show wpList _ _ _ (⟨some 15, _, _, _, _, _⟩ :: _) _ _); refine wpList_eqlU (op := ⟨some 15, _, _, _, _, _⟩) _ _ _ _ rfl (by rfl) _ _ (by rfl) (by rfl) guardBk f HE.out ?_))
    go_ret
    exact ⟨by rw [HV.out, Bool.and_true]; rfl, HW4.out⟩
end Go.Proofs.Ytajmppaodhpmgaa
namespace Go.Proofs.Ytajmppaodhpmgaa
set_option maxRecDepth 100000
open Go.RowKit Go.Lib

def sameLB (l m : List Bk) : Bool := decide (l.length = m.length) && (l.zip m).all fun x => bkQ x.1 x.2
theorem samePl_L (p q : Pl) : samePl p q = (decide (p.ver = q.ver) && sameLB p.l q.l) := by
  unfold samePl sameLB
  rw [Bool.and_assoc]
theorem sameLB_yes {l m : List Bk} {n : Nat} (h1 : l.length = n) (h2 : m.length = n) (h : ∀ j a b, j < n → l[j]? = some a → m[j]? = some b → bkQ a b = true) : sameLB l m = true := by
  have := samePl_yes (p := ⟨0, l⟩) (q := ⟨0, m⟩) rfl h1 h2 h
  rw [samePl_L] at this
  simpa using this
theorem sameLB_no {l m : List Bk} {j : Nat} {a b : Bk} (ha : l[j]? = some a) (hb : m[j]? = some b) (h : bkQ a b = false) : sameLB l m = false := by
  have := samePl_no (p := ⟨0, l⟩) (q := ⟨0, m⟩) ha hb h
  rw [samePl_L] at this
  simpa using this
theorem sameLB_len {l m : List Bk} (h : l.length ≠ m.length) : sameLB l m = false := by
  unfold sameLB
  rw [decide_eq_false h, Bool.false_and]
set_option maxHeartbeats 8000000 in
theorem peqf_any {A A' : Option Addr} {n n' B : Nat} (c c' : Nat) {l m : List Bk} (hn : n ≤ 1000000) (hn' : n' ≤ 1000000) (w : World) (hB : B ≤ w.heap.size) (h : RdG eB w B A n l) (h' : RdG eB w B A' n' m) :
    Calls Try.prog 32 #[.slice A n c, .slice A' n' c', .func (.func 33) #[] #[]] w fun e w' => e = .returned (.bool (sameLB l m)) ∧ Below w.heap.size w w' := by
  have HX := Lib.hid h
  have HZ := Lib.hid h'
  have HL := Lib.hid h.len
  have HL' := Lib.hid h'.len
  have HBB := Lib.hid hB
  have HNN := Lib.hid hn
  by_cases hne : n = n'
  · subst hne
    clear h h' hB hn hn'
    go_enter Try.func32, Try.ntmps32
    go_wp2_with fail
    go_loopw [17] (fun i wr => ∃ k : Nat, k ≤ n ∧ i = .int .i64 (k : Int) ∧ Hid (∀ j a b, j < k → l[j]? = some a → m[j]? = some b → bkQ a b = true) ∧ Below w.heap.size w wr) (fun i _ => n - (RowKit.intOf i).toNat)
    case atStart => exact ⟨0, Nat.zero_le _, rfl, Lib.hid (fun j a b h => absurd h (by omega)), Below.refl _ _⟩
    case round =>
      obtain ⟨k, hk, rfl, HK, hw⟩ := hrel
      have HW := Lib.hid hw
      clear hw
      by_cases hlt : k < n
      · have h1 : (k : Int) < (n : Int) := by omega
        have h0 : (0 : Int) ≤ (k : Int) := by omega
        obtain ⟨b, off, rfl, _⟩ := HX.out.addr (by omega)
        obtain ⟨b', off', rfl, _⟩ := HZ.out.addr (by omega)
        obtain ⟨x, hx⟩ : ∃ x, l[k]? = some x := ⟨_, List.getElem?_eq_getElem (by rw [HL.out]; exact hlt)⟩
        obtain ⟨y, hy⟩ : ∃ y, m[k]? = some y := ⟨_, List.getElem?_eq_getElem (by rw [HL'.out]; exact hlt)⟩
        have HXX := Lib.hid hx
        have HYY := Lib.hid hy
        have HLTN := Lib.hid hlt
        have hk9 : k < 9223372036854775807 := by have := HNN.out; omega
        have RX := Lib.hid ((HX.out.below (HW.out.mono HBB.out)).range hx)
        have RY := Lib.hid (fun W (hW : Below wr.heap.size wr W) => (HZ.out.below ((HW.out.trans (hW.mono HW.out.size)).mono HBB.out)).range HYY.out)
        have HS := Lib.hid (fun W => psameB_any x y W)
        unfold bkC at HS
        obtain ⟨LX, hLX⟩ : ∃ L, (bkL x).toArray = L := ⟨_, rfl⟩
        obtain ⟨LY, hLY⟩ : ∃ L, (bkL y).toArray = L := ⟨_, rfl⟩
        rw [hLX, hLY] at HS
        have HLX := Lib.hid hLX
        have HLY := Lib.hid hLY
        obtain ⟨r, hr⟩ : ∃ r, bkQ x y = r := ⟨_, rfl⟩
        rw [hr] at HS
        have HR := Lib.hid hr
        clear hLX hLY hx hy hlt hr
        go_upto_region 7 with (first
          | ((with_reducible show wpList _ _ _ (⟨some 21, _, _, _, _, _⟩ :: _) _ _); refine wpList_loadBk (op := ⟨some 21, _, _, _, _, _⟩) _ rfl (by rfl) b (off + k * 27) (by rfl) x RX.out _ HLX.out ?_)
          | ((with_reducible show wpList _ _ _ (⟨none, .store _ (.tmp 8) _, _, _, _, _⟩ :: _) _ _); refine wpList_storeNewG rfl 36 _ _ rfl (by rfl) (bkL x) (by rw [HLX.out]; rfl) (by rw [bkL_len]; rfl) (by rw [bkL_len]; exact sizeBk) (bkL_one x) ?_; intro w3 hb3 hB3 hz3; have H3 := Lib.hid hb3; have HB3 := Lib.hid hB3; have HZ3 := Lib.hid hz3; clear hb3 hB3 hz3)
          | ((with_reducible show wpList _ _ _ (⟨some 25, _, _, _, _, _⟩ :: _) _ _); refine wpList_loadBk (op := ⟨some 25, _, _, _, _, _⟩) _ rfl (by rfl) b' (off' + k * 27) (by rfl) y (RY.out _ HB3.out) _ HLY.out ?_)
          | ((with_reducible show wpList _ _ _ (⟨none, .store _ (.tmp 9) _, _, _, _, _⟩ :: _) _ _); refine wpList_storeNewG rfl 36 _ _ rfl (by rfl) (bkL y) (by rw [HLY.out]; rfl) (by rw [bkL_len]; rfl) (by rw [bkL_len]; exact sizeBk) (bkL_one y) ?_; intro w4 hb4 hB4 hz4; have H4 := Lib.hid hb4; have H34 := Lib.hid (Blk_10.below H3.out (Blk_10.lt H3.out) hB4); have HW4 := Lib.hid (HW.out.trans ((HB3.out.trans (hB4.mono HB3.out.size)).mono HW.out.size)); clear hb4 hB4 hz4))
        cases r
        · go_wp2_with (first
            | ((with_reducible show wpList _ _ _ (⟨some 27, _, _, _, _, _⟩ :: _) _ _); refine wpList_loadBk (op := ⟨some 27, _, _, _, _, _⟩) _ rfl (by rfl) wr.heap.size 0 (by rfl) x (Blk_10.range H34.out) _ HLX.out ?_)
            | ((with_reducible show wpList _ _ _ (⟨some 28, _, _, _, _, _⟩ :: _) _ _); refine wpList_loadBk (op := ⟨some 28, _, _, _, _, _⟩) _ rfl (by rfl) w3.heap.size 0 (by rfl) y (Blk_10.range H4.out) _ HLY.out ?_)
            | (go_at_call 33; refine (HS.out _).mono ?_; rintro e w5 ⟨rfl, hb5⟩; have HW5 := Lib.hid (HW4.out.trans (hb5.mono HW4.out.size)); clear hb5))
          have hno := sameLB_no HXX.out HYY.out HR.out
          go_ret
          exact ⟨by rw [hno]; rfl, HW5.out⟩
        · go_wp2_with (first
            | ((with_reducible show wpList _ _ _ (⟨some 27, _, _, _, _, _⟩ :: _) _ _); refine wpList_loadBk (op := ⟨some 27, _, _, _, _, _⟩) _ rfl (by rfl) wr.heap.size 0 (by rfl) x (Blk_10.range H34.out) _ HLX.out ?_)
            | ((with_reducible show wpList _ _ _ (⟨some 28, _, _, _, _, _⟩ :: _) _ _); refine wpList_loadBk (op := ⟨some 28, _, _, _, _, _⟩) _ rfl (by rfl) w3.heap.size 0 (by rfl) y (Blk_10.range H4.out) _ HLY.out ?_)
            | (go_at_call 33; refine (HS.out _).mono ?_; rintro e w5 ⟨rfl, hb5⟩; have HW5 := Lib.hid (HW4.out.trans (hb5.mono HW4.out.size)); clear hb5))
          go_roundw
          case rel => exact ⟨k + 1, HLTN.out, by go_num, Lib.hid (fun j a b hj ha hb => by
            by_cases e : j = k
            · subst e
              rw [HXX.out] at ha
              rw [HYY.out] at hb
              cases ha
              cases hb
              exact HR.out
            · exact HK.out j a b (by omega) ha hb), HW5.out⟩
          case measure =>
            have := HLTN.out
            simp [RowKit.intOf]
            omega
      · obtain rfl : k = n := by omega
        have h1 : ¬ (k : Int) < (k : Int) := by omega
        have HY := Lib.hid (sameLB_yes HL.out HL'.out HK.out)
        clear hlt hk
        go_wp2_with fail
        go_ret
        exact ⟨by rw [HY.out]; rfl, HW.out⟩
  · have hb : ((n : Int) != (n' : Int)) = true := by simp; omega
    have hb2 : ((n : Int) == (n' : Int)) = false := by simp; omega
    have hb3 : (n == n') = false := by simp; omega
    have hno := sameLB_len (l := l) (m := m) (by rw [HL.out, HL'.out]; exact hne)
    rw [hno]
    clear h h' hB hn hn' hno
    go_enter Try.func32, Try.ntmps32
    go_wp2_with fail
    go_ret
    exact ⟨rfl, Below.refl _ _⟩
set_option maxHeartbeats 4000000 in
theorem psame_any {A A' : Option Addr} {n n' B : Nat} (c c' : Nat) {p q : Pl} (hn : n ≤ 1000000) (hn' : n' ≤ 1000000) (w : World) (hB : B ≤ w.heap.size) (h : RdG eB w B A n p.l) (h' : RdG eB w B A' n' q.l) :
    Calls Try.prog 16 #[.agg #[.int .i64 p.ver, .slice A n c], .agg #[.int .i64 q.ver, .slice A' n' c']] w fun e w' => e = .returned (.bool (samePl p q)) ∧ Below w.heap.size w w' := by
  obtain ⟨Y, hY, ka, kb, hb0⟩ := box_pl2 w #[.int .i64 p.ver, .slice A n c] #[.int .i64 q.ver, .slice A' n' c']
  have HE := Lib.hid (peqf_any c c' hn hn' Y (Nat.le_trans hB hb0.size) (h.below (hb0.mono hB)) (h'.below (hb0.mono hB)))
  have HV := Lib.hid (samePl_L p q)
  have HB := Lib.hid hb0
  have q0 : Y.cell? ⟨w.heap.size, 0, none⟩ = some (.int .i64 p.ver) := Blk_10.cell ka rfl
  have q1 : Y.cell? ⟨w.heap.size, 1, none⟩ = some (.slice A n c) := Blk_10.cell ka (i := 1) rfl
  have p0 : Y.cell? ⟨w.heap.size + 1, 0, none⟩ = some (.int .i64 q.ver) := Blk_10.cell kb rfl
  have p1 : Y.cell? ⟨w.heap.size + 1, 1, none⟩ = some (.slice A' n' c') := Blk_10.cell kb (i := 1) rfl
  obtain ⟨va, hva⟩ : ∃ v, p.ver = v := ⟨_, rfl⟩
  obtain ⟨vb, hvb⟩ : ∃ v, q.ver = v := ⟨_, rfl⟩
  obtain ⟨r, hr⟩ : ∃ r, samePl p q = r := ⟨_, rfl⟩
  obtain ⟨s, hs⟩ : ∃ s, sameLB p.l q.l = s := ⟨_, rfl⟩
  rw [hva, hvb, hr]
  rw [hva] at q0 hY
  rw [hvb] at p0 hY
  rw [hva, hvb, hr, hs] at HV
  rw [hs] at HE
  rw [← hY] at q0 q1 p0 p1 HE HB
  clear ka kb hb0 hY hva hvb hr hs h h' hB hn hn'
  by_cases he : va = vb
  · rw [decide_eq_true he, Bool.true_and] at HV
    subst he
    go_enter Try.func16, Try.ntmps16
    go_wp2_with (go_at_call 32; refine HE.out.mono ?_; rintro e w5 ⟨rfl, hb5⟩; have HW5 := Lib.hid (HB.out.trans (hb5.mono HB.out.size)); clear hb5)
    go_ret
    exact ⟨by rw [HV.out]; rfl, HW5.out⟩
  · have hb : (va == vb) = false := beq_eq_false_iff_ne.2 he
    rw [decide_eq_false he, Bool.false_and] at HV
    clear he
    go_enter Try.func16, Try.ntmps16
    go_wp2_with fail
    go_ret
    exact ⟨by rw [HV.out]; rfl, HB.out⟩
end Go.Proofs.Ytajmppaodhpmgaa
