/-
  PoolPlays: its walk, the program's contracts a premise.
-/
import Derived.Test.YtajmppaodhpmgaaULaw4
import Derived.Deep.DeepCutAuto
namespace Go.Proofs.Ytajmppaodhpmgaa
set_option maxRecDepth 100000
open Go.RowKit Go.Lib

set_option maxHeartbeats 32000000 in
theorem poolPlays_walkW (S : PoolC) (A : Option Addr) (len cap : Nat) (xs : List OpU) (hc : len ≤ cap) (hm : cap ≤ maxLen) (_hX : ∀ x, x ∈ xs → OpOk x) (w : World) (hI : RdG eO w w.heap.size A len xs) :
    Calls Try.prog 5 #[.slice A len cap] w fun e w' => e = .returned (.bool true) ∧ Below w.heap.size w w' := by
  have HSS := Lib.hid S
  have HLE := Lib.hid hI.len
  have HLB := Lib.hid (big_max hc hm)
  have HAW := Lib.hid (fun W => awake_any S W)
  have OR : Hid (∀ W, Below w.heap.size w W → RdG eO W w.heap.size A len xs) := Lib.hid (fun W h => hI.below h)
  obtain ⟨F, hF⟩ : ∃ F, fewO xs = F := ⟨_, rfl⟩
  have HFE := Lib.hid hF
  have HFW : Hid (∀ W, Below w.heap.size w W → Calls Try.prog 18 #[.slice A len cap] W fun e w' => e = .returned (.bool F) ∧ w' = W) := Lib.hid (by rw [← hF]; exact fun W h => rfewO_any cap HLB.out W (OR.out W h))
  clear hF hc hm _hX hI S
  cases F
  · skip
    go_enter Try.func5, Try.ntmps5
    go_wp2_with (first | ((with_reducible refine (HAW.out w).mono ?_); rintro e w1 ⟨rfl, hb⟩; have D1 := Lib.hid hb; clear hb) | ((with_reducible refine (HFW.out w1 D1.out).mono ?_); rintro e w2 ⟨rfl, h2⟩; obtain rfl := h2.symm))
    refine (HAW.out _).mono ?_
    rintro e wz ⟨rfl, hz⟩
    go_wp2_with fail
    go_ret
    exact ⟨rfl, bel2 D1.out hz⟩
  · skip
    go_enter Try.func5, Try.ntmps5
    have HN := Lib.hid (show len ≤ 60 by rw [← HLE.out]; exact (few_o HFE.out).1)
    have HSN := Lib.hid (fun o (h : o ∈ xs) => (few_o HFE.out).2 o h)
    have BP : Hid (Try.prog.built 24 [] = some #[.int .i64 0, .slice none 0 0]) := Lib.hid (by kernel_rfl)
    go_wp2_with (first | ((with_reducible refine (HAW.out w).mono ?_); rintro e w1 ⟨rfl, hb⟩; have D1 := Lib.hid hb; clear hb) | ((with_reducible refine (HFW.out w1 D1.out).mono ?_); rintro e w2 ⟨rfl, h2⟩; obtain rfl := h2.symm) | ((with_reducible show wpList _ _ _ (⟨some 22, _, _, _, _, _⟩ :: _) _ _); refine wpList_buildw (op := ⟨some 22, _, _, _, _, _⟩) 24 #[] rfl (by rfl) [] (by simp) #[.int .i64 0, .slice none 0 0] BP.out ?_) | ((with_reducible show wpList _ _ _ (⟨none, .store 24 (.tmp 3) _, _, _, _, _⟩ :: _) _ _); refine wpList_storeNewG rfl 24 (.tmp 3) _ rfl (by rfl) ([.int .i64 0, .slice none 0 0]) (by rfl) (by simp) (poolSize) (by simp [Value.oneCell']) ?_; intro w3 hb hB hz; have HK3 := Lib.hid hb; have HBw3 := Lib.hid hB; clear hb hB hz))
    have D3 := Lib.hid (bel2 D1.out HBw3.out)
    have HG1 := Lib.hid D1.out.size
    obtain ⟨gp, hgp⟩ : ∃ g, w1.heap.size = g := ⟨_, rfl⟩
    rw [hgp] at HK3 HG1 ⊢
    clear hgp
    go_loopw [4, 5] (fun d i wr => ∃ (k : Nat) (pl : Pl) (Ap : Option Addr) (n c : Nat), k ≤ len ∧ i = .int .i64 (k : Int) ∧ d = .int .i64 pl.ver ∧ Hid (RightP pl) ∧ Hid (pl.l.length ≤ k) ∧ Hid (n ≤ c) ∧ Hid (c ≤ maxLen) ∧ Hid (Blk wr 24 gp [.int .i64 pl.ver, .slice Ap n c]) ∧ Hid (RdG eB wr wr.heap.size Ap n pl.l) ∧ Hid (0 < n → ∃ b off, Ap = some ⟨b, off, none⟩ ∧ b ≠ gp) ∧ Hid (Below w.heap.size w wr)) (fun _ i _ => len - (RowKit.intOf i).toNat)
    case atStart => exact ⟨0, ⟨0, []⟩, none, 0, 0, Nat.zero_le _, rfl, rfl, Lib.hid right_zero, Lib.hid (Nat.le_refl _), Lib.hid (Nat.le_refl _), Lib.hid (Nat.zero_le _), HK3, Lib.hid (RdG.nil_ _), Lib.hid (fun h => absurd h (by omega)), D3⟩
    case round =>
      obtain ⟨k, pl, Ap, n, c, hk, rfl, rfl, HRP, HPL, HNC, HCM, HKP, HRR, HPO, HW⟩ := hrel
      by_cases hlt : k < len
      · have h1 : (k : Int) < (len : Int) := by omega
        have h0 : (0 : Int) ≤ (k : Int) := by omega
        obtain ⟨b, off, rfl, _⟩ := (OR.out wr HW.out).addr (Nat.lt_of_le_of_lt (Nat.zero_le _) hlt)
        obtain ⟨o, ho⟩ : ∃ o, xs[k]? = some o := ⟨_, List.getElem?_eq_getElem (by rw [HLE.out]; exact hlt)⟩
        have HOO := Lib.hid ho
        have HS := Lib.hid (HSN.out o (List.mem_of_getElem? ho))
        have HLTN := Lib.hid hlt
        have hk9 : k < 9223372036854775807 := by have := HN.out; omega
        have HK60 := Lib.hid (show k < 60 by have := HN.out; omega)
        obtain ⟨K, hK⟩ : ∃ K, o.kind = K := ⟨_, rfl⟩
        have HK := Lib.hid hK
        have OC : Hid (∀ W, Below w.heap.size w W → W.cell? ⟨b, off + k * 30, none⟩ = some (.int .i64 K) ∧ W.cell? ⟨b, off + k * 30 + 1, none⟩ = some (.string ⟨o.b.nm.toArray⟩) ∧ W.cell? ⟨b, off + k * 30 + 28, none⟩ = some (.string ⟨o.nm.toArray⟩) ∧ W.cell? ⟨b, off + k * 30 + 29, none⟩ = some (.float .f64 o.wt)) := Lib.hid (fun W h => by
          have hr := OR.out W h
          rw [← hK]
          have h0 := hr.cell HOO.out 0 (opu_kind o)
          have h1 := hr.cell HOO.out 1 (opu_bnm o)
          have h2 := hr.cell HOO.out 28 (opu_nm o)
          have h3 := hr.cell HOO.out 29 (opu_wt o)
          rw [← Nat.add_assoc] at h0 h1 h2 h3
          exact ⟨h0, h1, h2, h3⟩)
        have OW : Hid (∀ W, Below w.heap.size w W → W.rangeAt b (off + k * 30) (opuL o)) := Lib.hid (fun W h => (OR.out W h).range HOO.out)
        have OB : Hid (∀ W, Below w.heap.size w W → W.rangeAt b (off + k * 30 + 1) (bkL o.b)) := Lib.hid (fun W h i v hv => by have := (OR.out W h).cell HOO.out (1 + i) (opu_bk o hv); rw [show off + k * 30 + 1 + i = off + (k * eO.k + (1 + i)) by show _ = off + (k * 30 + (1 + i)); omega]; exact this)
        have HNM : Hid (o.name = if K = 1 then o.b.nm else o.nm) := Lib.hid (by rw [← hK]; rfl)
        have HNL := Lib.hid (name_few HS.out)
        have HQR := Lib.hid (do_right HRP.out o)
        have HQM := Lib.hid (do_more HRP.out o)
        have HDN := Lib.hid (show o.err pl ≠ 0 → doP pl o = pl from fun h => do_no h)
        have HOWN := Lib.hid (fun h => plays_own HRP.out (o := o) h)
        have HVE := Lib.hid (fun h => do_ver (p := pl) (o := o) h)
        have HQT := Lib.hid (do_right HRP.out o).top
        rw [hK] at HOWN
        clear hK ho hlt
        obtain ⟨ok, ob, on, ow⟩ := OC.out wr HW.out
        obtain ⟨kb, hkb⟩ : ∃ z, (K == 1) = z := ⟨_, rfl⟩
        obtain ⟨nm, hnm⟩ : ∃ z, o.name = z := ⟨_, rfl⟩
        rw [hnm] at HNM HNL HOWN
        clear hnm
        go_upto_if 39 with (fail)
        go_cut [6] (fun s wx => s = .string ⟨nm.toArray⟩ ∧ wx = wr)
        case first =>
          cases kb
          · have hv := Lib.hid (congrArg (fun l : List UInt8 => Value.string ⟨l.toArray⟩) (show o.nm = nm by rw [HNM.out, if_neg (beq_eq_false_iff_ne.1 hkb)]))
            go_wp2_with fail
            go_meet
            case rel => exact ⟨hv.out, rfl⟩
          · have hv := Lib.hid (congrArg (fun l : List UInt8 => Value.string ⟨l.toArray⟩) (show o.b.nm = nm by rw [HNM.out, if_pos (beq_iff_eq.1 hkb)]))
            go_wp2_with fail
            go_meet
            case rel => exact ⟨hv.out, rfl⟩
        case rest =>
        obtain ⟨rfl, hwx⟩ := hcut
        have hwx := hwx.symm
        subst hwx
        clear ok ob on ow
        have HN1 := Lib.hid (show n ≤ 100 by have := HRR.out.len; have := HPL.out; have := HK60.out; omega)
        have LP := Lib.hid (Blk_10.lt HKP.out)
        have PC : Hid (∀ W, Below wr.heap.size wr W → W.cell? ⟨gp, 0, none⟩ = some (.int .i64 pl.ver) ∧ W.cell? ⟨gp, 1, none⟩ = some (.slice Ap n c)) := Lib.hid (fun W h => ⟨Blk_10.cell (Blk_10.below HKP.out LP.out h) (i := 0) rfl, Blk_10.cell (Blk_10.below HKP.out LP.out h) (i := 1) rfl⟩)
        have PR : Hid (∀ W, Below wr.heap.size wr W → RdG eB W wr.heap.size Ap n pl.l) := Lib.hid (fun W h => HRR.out.below h)
        have DW : Hid (∀ W, Below wr.heap.size wr W → Below w.heap.size w W) := Lib.hid (fun W h => bel2 HW.out h)
        obtain ⟨r0, hr0⟩ : ∃ r, findB pl.l nm = r := ⟨_, rfl⟩
        obtain ⟨LF, hLF⟩ : ∃ L, (bkL (r0.getD bk0)).toArray = L := ⟨_, rfl⟩
        have HLF := Lib.hid hLF
        have HFI : Hid (∀ W, Below wr.heap.size wr W → Calls Try.prog 21 #[.agg #[.int .i64 pl.ver, .slice Ap n c], .string ⟨nm.toArray⟩] W fun e w' => e = .returned (.tuple #[.agg LF, .bool r0.isSome]) ∧ Below W.heap.size W w') := Lib.hid (by
          intro W h
          have h2 := HSS.out.find (p := pl) c HNC.out HCM.out HRP.out HN1.out nm HNL.out W h.size (PR.out W h)
          rw [hr0, fnd_getP] at h2
          unfold bkC at h2
          rw [hLF] at h2
          exact h2)
        rw [hr0] at HOWN
        clear hLF hr0
        obtain ⟨p0, p1⟩ := PC.out wr (Below.refl _ _)
        go_upto_region 12 with (first | ((with_reducible refine (HFI.out wr (Below.refl _ _)).mono ?_); rintro e w5 ⟨rfl, hb⟩; have HB5 := Lib.hid hb; clear hb p0 p1) | ((with_reducible show wpList _ _ _ (⟨none, .store 36 (.tmp 7) _, _, _, _, _⟩ :: _) _ _); refine wpList_storeNewG rfl 36 (.tmp 7) _ rfl (by rfl) (bkL (r0.getD bk0)) (by rw [HLF.out]; rfl) (by rw [bkL_len]; rfl) (by rw [bkL_len]; exact sizeBk) (bkL_one _) ?_; intro w6 hb hB hz; have HK6 := Lib.hid hb; have HBw6 := Lib.hid hB; clear hb hB hz))
        have B6 := Lib.hid (bel2 HB5.out HBw6.out)
        have L6 := Lib.hid (Blk_10.lt HK6.out)
        obtain ⟨LO, hLO⟩ : ∃ L, (opuL o).toArray = L := ⟨_, rfl⟩
        have HLO := Lib.hid hLO
        have HDO : Hid (∀ W, Below wr.heap.size wr W → Calls Try.prog 19 #[.agg #[.int .i64 pl.ver, .slice Ap n c], .agg LO] W fun e w' => ∃ v, e = .returned (.tuple #[.agg #[.int .i64 (doP pl o).ver, v], .int .i64 (o.err pl)]) ∧ OwnG eB w' W.heap.size v (doP pl o).l ∧ Below W.heap.size W w') := Lib.hid (fun W h => by have := HSS.out.do_ (p := pl) c HNC.out HCM.out HRP.out HN1.out o HS.out.1 HS.out.2 W h.size (PR.out W h); unfold opuC at this; rw [hLO] at this; exact this)
        clear hLO
        generalize doP pl o = q at HQR HQM HDN HOWN HVE HQT HDO
        generalize o.err pl = er at HDN HOWN HVE HDO
        go_cut [9, 10] (fun s9 s10 wx => ∃ (g : Nat) (A8 : Option Addr) (n8 c8 : Nat), s9 = .pointer (some ⟨g, 0, none⟩) ∧ s10 = .int .i64 er ∧ Blk wx 24 g [.int .i64 q.ver, .slice A8 n8 c8] ∧ OwnG eB wx w6.heap.size (.slice A8 n8 c8) q.l ∧ n8 = q.l.length ∧ n8 ≤ c8 ∧ c8 ≤ maxLen ∧ Below w6.heap.size w6 wx)
        case first =>
          refine wp_region_held_drew (S := fun W => Below w6.heap.size w6 W) (by kernel_rfl) ((Below.refl _ _).drew) (fun hHeld => ?_)
          obtain ⟨X0, hX0⟩ : ∃ X, w6.drew = X := ⟨_, rfl⟩
          rw [hX0] at hHeld ⊢
          clear hX0
          refine tkY 0 53 (.agg #[.int .i64 pl.ver, .slice Ap n c]) rfl (Or.inl ⟨by rfl, fun W hW => by obtain ⟨h1, h2⟩ := PC.out W (bel2 B6.out hW); go_simp⟩) hHeld ?_
          simp only [Act.put, sA, sZ, sS]
          refine tk 1 54 (.slice (some ⟨b, off, none⟩) len cap) rfl hHeld ?_
          simp only [Act.put, sA, sZ, sS]
          refine tk 2 55 (.int .i64 (k : Int)) rfl hHeld ?_
          simp only [Act.put, sA, sZ, sS]
          refine tk 3 56 (.pointer (some ⟨b, off + k * 30, none⟩)) rfl hHeld ?_
          simp only [Act.put, sA, sZ, sS]
          refine tkY 4 57 (.agg LO) rfl (by rw [← HLO.out]; exact yieldsIf_load_mid (by rfl) 38 _ rfl b (off + k * 30) (by rfl) (opuL o) _ (fun W hW => OW.out W (DW.out W (bel2 B6.out hW))) Try.underlying38 rfl (by rw [opuL_len]; exact sizeOpu)) hHeld ?_
          simp only [Act.put, sA, sZ, sS]
          refine wpAnyH_ready (rs := [5, 9]) (by kernel_rfl) (by simp) (AllReadyH.cons (o := ⟨some 58, _, _, _, _, _⟩) rfl (fun K hK => ?_) (AllReadyH.cons (o := ⟨some 9, _, _, _, _, _⟩) rfl (fun K hK => ?_) AllReadyH.nil))
          · skip
            go_simp
            refine (HDO.out _ (bel2 B6.out hHeld)).mono ?_
            rintro e wx ⟨vx, rfl, hox, hbx⟩
            obtain ⟨A8, n8, c8, rfl, e8, q8, m8, _, ow8⟩ := own_any hox
            have HE8 := Lib.hid e8
            have HQ8 := Lib.hid q8
            have HM8 := Lib.hid m8
            have HO8 := Lib.hid ow8
            have HBX := Lib.hid hbx
            have HBH := Lib.hid (hHeld.trans (hbx.mono hHeld.size))
            have HH6 := Lib.hid hHeld.size
            clear e8 q8 m8 ow8 hox
            refine hK.out _ _ (HBH.out) (fun hHeld => ?_)
            clear hK K hbx
            refine tk 6 52 (.tuple #[.agg #[.int .i64 q.ver, .slice A8 n8 c8], .int .i64 er]) rfl hHeld ?_
            simp only [Act.put, sA, sZ, sS]
            refine tk 7 59 (.agg #[.int .i64 q.ver, .slice A8 n8 c8]) rfl hHeld ?_
            simp only [Act.put, sA, sZ, sS]
            refine tk 8 60 (.int .i64 er) rfl hHeld ?_
            simp only [Act.put, sA, sZ, sS]
            refine wpAnyH_ready (rs := [9]) (by kernel_rfl) (by simp) (AllReadyH.cons (o := ⟨some 9, _, _, _, _, _⟩) rfl (fun K hK => ?_) AllReadyH.nil)
            have hbn := Blk_10.new wx 24 [.int .i64 0, .slice none 0 0]
            have hnb := hHeld.alloc hHeld.size (.cells #[.int .i64 0, .slice none 0 0] 24)
            have HGE := Lib.hid hHeld.size
            go_simp
            refine hK.out _ _ hnb (fun hHeld => ?_)
            clear hK K hnb
            refine wpAnyH_ready (rs := [10]) (by kernel_rfl) (by simp) (AllReadyH.cons (o := ⟨none, _, _, _, _, _⟩) rfl (fun K hK => ?_) AllReadyH.nil)
            refine step_storeBA rfl 24 (.tmp 9) (.tmp 59) rfl (wx.heap.size) (by rfl) [.int .i64 q.ver, .slice A8 n8 c8] (by rfl) [.int .i64 0, .slice none 0 0] (hbn) rfl poolSize (by simp [Value.oneCell']) ?_
            intro wz hbz hgz
            have HZ := Lib.hid (below_gb hHeld hgz HGE.out hHeld.size)
            have HBZ := Lib.hid hbz
            have HOZ := Lib.hid (((HO8.out.alloc _).kept hgz (.inr (fun e => Nat.lt_irrefl _ (HO8.out.ltS _ e)))).base_le HH6.out)
            refine hK.out _ _ (HZ.out) (fun hHeld => ?_)
            clear hK K hbz hgz
            refine tk 11 10 (.int .i64 er) rfl hHeld ?_
            simp only [Act.put, sA, sZ, sS]
            refine wpAnyH_done (by kernel_rfl) ?_ _
            go_wp2_with fail
            go_meet
            case rel => exact ⟨_, _, _, _, rfl, rfl, HBZ.out, HOZ.out, HE8.out, HQ8.out, HM8.out, hHeld⟩
          · skip
            have hbn := Blk_10.new X0 24 [.int .i64 0, .slice none 0 0]
            have HBN2 := Lib.hid hbn
            have hnb := hHeld.alloc hHeld.size (.cells #[.int .i64 0, .slice none 0 0] 24)
            have HGE := Lib.hid hHeld.size
            go_simp
            refine hK.out _ _ hnb (fun hHeld => ?_)
            clear hK K hnb
            refine wpAnyH_ready (rs := [5]) (by kernel_rfl) (by simp) (AllReadyH.cons (o := ⟨some 58, _, _, _, _, _⟩) rfl (fun K hK => ?_) AllReadyH.nil)
            go_simp
            refine (HDO.out _ (bel2 B6.out hHeld)).mono ?_
            rintro e wx ⟨vx, rfl, hox, hbx⟩
            obtain ⟨A8, n8, c8, rfl, e8, q8, m8, _, ow8⟩ := own_any hox
            have HE8 := Lib.hid e8
            have HQ8 := Lib.hid q8
            have HM8 := Lib.hid m8
            have HO8 := Lib.hid ow8
            have HBX := Lib.hid hbx
            have HBH := Lib.hid (hHeld.trans (hbx.mono hHeld.size))
            have HH6 := Lib.hid hHeld.size
            clear e8 q8 m8 ow8 hox
            refine hK.out _ _ (HBH.out) (fun hHeld => ?_)
            clear hK K hbx
            refine tk 6 52 (.tuple #[.agg #[.int .i64 q.ver, .slice A8 n8 c8], .int .i64 er]) rfl hHeld ?_
            simp only [Act.put, sA, sZ, sS]
            refine tk 7 59 (.agg #[.int .i64 q.ver, .slice A8 n8 c8]) rfl hHeld ?_
            simp only [Act.put, sA, sZ, sS]
            refine tk 8 60 (.int .i64 er) rfl hHeld ?_
            simp only [Act.put, sA, sZ, sS]
            refine wpAnyH_ready (rs := [10]) (by kernel_rfl) (by simp) (AllReadyH.cons (o := ⟨none, _, _, _, _, _⟩) rfl (fun K hK => ?_) AllReadyH.nil)
            refine step_storeBA rfl 24 (.tmp 9) (.tmp 59) rfl (X0.heap.size) (by rfl) [.int .i64 q.ver, .slice A8 n8 c8] (by rfl) [.int .i64 0, .slice none 0 0] (Blk_10.below HBN2.out (Blk_10.lt HBN2.out) HBX.out) rfl poolSize (by simp [Value.oneCell']) ?_
            intro wz hbz hgz
            have HZ := Lib.hid (below_gb hHeld hgz HGE.out hHeld.size)
            have HBZ := Lib.hid hbz
            have HOZ := Lib.hid (((HO8.out).kept hgz (.inr (fun e => by have h1 := HO8.out.lt _ e; rw [World.size_alloc] at h1; omega))).base_le HH6.out)
            refine hK.out _ _ (HZ.out) (fun hHeld => ?_)
            clear hK K hbz hgz
            refine tk 11 10 (.int .i64 er) rfl hHeld ?_
            simp only [Act.put, sA, sZ, sS]
            refine wpAnyH_done (by kernel_rfl) ?_ _
            go_wp2_with fail
            go_meet
            case rel => exact ⟨_, _, _, _, rfl, rfl, HBZ.out, HOZ.out, HE8.out, HQ8.out, HM8.out, hHeld⟩
        case rest =>
        obtain ⟨g9, A8, n8, c8, rfl, rfl, hb9, ho8, he8, hq8, hm8, hw8⟩ := hcut
        have HK9 := Lib.hid hb9
        have HO8 := Lib.hid ho8
        have HE8 := Lib.hid he8
        have HQ8 := Lib.hid hq8
        have HM8 := Lib.hid hm8
        have B8 := Lib.hid (bel2 B6.out hw8)
        have HB68 := Lib.hid hw8
        have L9 := Lib.hid (Blk_10.lt hb9)
        clear hb9 ho8 he8 hq8 hm8 hw8
        obtain ⟨w8, hw8⟩ : ∃ z, z = wc := ⟨_, rfl⟩
        subst hw8
        have HN8 := Lib.hid (show n8 ≤ 100 by have := HE8.out; have := HQM.out; have := HPL.out; have := HK60.out; omega)
        have QC : Hid (∀ W, Below w8.heap.size w8 W → W.cell? ⟨g9, 0, none⟩ = some (.int .i64 q.ver) ∧ W.cell? ⟨g9, 1, none⟩ = some (.slice A8 n8 c8)) := Lib.hid (fun W h => ⟨Blk_10.cell (Blk_10.below HK9.out L9.out h) (i := 0) rfl, Blk_10.cell (Blk_10.below HK9.out L9.out h) (i := 1) rfl⟩)
        have QR : Hid (∀ W, Below w8.heap.size w8 W → RdG eB W w8.heap.size A8 n8 q.l) := Lib.hid (fun W h => (HO8.out.rd).below h)
        have R8 : Hid (∀ W, Below w8.heap.size w8 W → Below wr.heap.size wr W) := Lib.hid (fun W h => bel2 B8.out h)
        obtain ⟨p0, p1⟩ := PC.out w8 B8.out
        obtain ⟨q0, q1⟩ := QC.out w8 (Below.refl _ _)
        by_cases her : er = 0
        · subst her
          have hne0 : ((0 : Int) != 0) = false := rfl
          obtain ⟨hO1, hO2, hO3⟩ := HOWN.out rfl
          have hve := HVE.out rfl
          have HVV := Lib.hid hve
          clear hve
          obtain ⟨r1, hr1⟩ : ∃ r, findB q.l nm = r := ⟨_, rfl⟩
          rw [hr1] at hO2 hO3
          have HO3 := Lib.hid hO3
          clear hO3
          obtain ⟨LG, hLG⟩ : ∃ L, (bkL (r1.getD bk0)).toArray = L := ⟨_, rfl⟩
          have HLG := Lib.hid hLG
          have HFJ : Hid (∀ W, Below w8.heap.size w8 W → Calls Try.prog 21 #[.agg #[.int .i64 q.ver, .slice A8 n8 c8], .string ⟨nm.toArray⟩] W fun e w' => e = .returned (.tuple #[.agg LG, .bool r1.isSome]) ∧ Below W.heap.size W w') := Lib.hid (by
            intro W h
            have h2 := HSS.out.find (p := q) c8 HQ8.out HM8.out HQR.out HN8.out nm HNL.out W h.size (QR.out W h)
            rw [hr1, fnd_getP] at h2
            unfold bkC at h2
            rw [hLG] at h2
            exact h2)
          have HRG : Hid (∀ W, Below w8.heap.size w8 W → Calls Try.prog 14 #[.agg #[.int .i64 q.ver, .slice A8 n8 c8]] W (RightGave W q)) := Lib.hid (fun W h => HSS.out.right (p := q) c8 HQ8.out HM8.out HN8.out (fun x hx => Nat.le_trans (right_name HQR.out hx) (by decide)) W h.size (QR.out W h))
          clear hLG hr1
          obtain ⟨s0, hs0⟩ : ∃ z, r0.isSome = z := ⟨_, rfl⟩
          obtain ⟨s1, hs1⟩ : ∃ z, r1.isSome = z := ⟨_, rfl⟩
          rw [hs0] at hO1
          rw [hs1] at hO2 HFJ
          rw [hs0]
          have HS1 := Lib.hid hs1
          clear hs0 hs1
          obtain ⟨k2, hk2⟩ : ∃ z, (K == 2) = z := ⟨_, rfl⟩
          rw [hkb] at hO1
          rw [hk2] at hO2
          have hO1n : ¬ s0 = kb := beq_eq_false_iff_ne.1 hO1
          have hO2n : ¬ s1 = k2 := beq_eq_false_iff_ne.1 hO2
          have hv40 : pl.ver + 1 ≤ 1099511627776 := by have := HQT.out; have := HVV.out; omega
          have hvl : 0 ≤ pl.ver := HRP.out.low
          go_upto_region 18 with (first | ((with_reducible refine (HFJ.out w8 (Below.refl _ _)).mono ?_); rintro e w9 ⟨rfl, hb⟩; have HB9 := Lib.hid hb; clear hb p0 p1 q0 q1) | ((with_reducible show wpList _ _ _ (⟨none, .store 36 (.tmp 11) _, _, _, _, _⟩ :: _) _ _); refine wpList_storeNewG rfl 36 (.tmp 11) _ rfl (by rfl) (bkL (r1.getD bk0)) (by rw [HLG.out]; rfl) (by rw [bkL_len]; rfl) (by rw [bkL_len]; exact sizeBk) (bkL_one _) ?_; intro w10 hb hB hz; have HK10 := Lib.hid hb; have HBw10 := Lib.hid hB; clear hb hB hz))
          have B10 := Lib.hid (bel2 HB9.out HBw10.out)
          have L10 := Lib.hid (Blk_10.lt HK10.out)
          obtain ⟨q0, q1⟩ := QC.out w10 B10.out
          obtain ⟨ok, ob, on, ow⟩ := OC.out w10 (DW.out _ (R8.out _ B10.out))
          have hvn : (q.ver != pl.ver + 1) = false := by rw [HVV.out]; simp
          go_upto_region 20 with (first | ((with_reducible refine (HRG.out w10 B10.out).mono ?_); rintro e w11 ⟨rr, rfl, hrr, hb⟩; obtain rfl : rr = true := hrr.2 HQR.out; clear hrr; have B11 := Lib.hid (bel2 B10.out hb); have B1011 := Lib.hid hb; clear q0 q1 ok ob on ow hb; obtain ⟨q0, q1⟩ := QC.out w11 B11.out; obtain ⟨ok, ob, on, ow⟩ := OC.out w11 (DW.out _ (R8.out _ B11.out))))
          clear hO1 hO2 hO1n hO2n hvn q0 q1 hk2
          have HK6w : Hid (∀ W, Below w8.heap.size w8 W → Blk W 36 w5.heap.size (bkL (r0.getD bk0))) := Lib.hid (fun W h => Blk_10.below HK6.out L6.out (bel2 HB68.out h))
          obtain ⟨LB, hLB⟩ : ∃ L, (bkL o.b).toArray = L := ⟨_, rfl⟩
          have HLB := Lib.hid hLB
          clear hLB
          go_upto_region 21 with (first | ((with_reducible show wpList _ _ _ (⟨some 104, _, _, _, _, _⟩ :: _) _ _); refine wpList_loadBk (op := ⟨some 104, _, _, _, _, _⟩) _ rfl (by rfl) w5.heap.size 0 (by rfl) (r0.getD bk0) (Blk_10.range (HK6w.out w11 B11.out)) _ HLF.out ?_) | ((with_reducible show wpList _ _ _ (⟨none, .store 36 (.tmp 13) _, _, _, _, _⟩ :: _) _ _); refine wpList_storeNewG rfl 36 (.tmp 13) _ rfl (by rfl) (bkL (r0.getD bk0)) (by rw [HLF.out]; rfl) (by rw [bkL_len]; rfl) (by rw [bkL_len]; exact sizeBk) (bkL_one _) ?_; intro w12 hb hB hz; have HK12 := Lib.hid hb; have HBw12 := Lib.hid hB; clear hb hB hz))
          obtain ⟨b0, hb0⟩ : ∃ z, r0.getD bk0 = z := ⟨_, rfl⟩
          rw [hb0] at HK12 HO3
          clear hb0
          obtain ⟨b1, hb1⟩ : ∃ z, wA o b0 = z := ⟨_, rfl⟩
          rw [hb1] at HO3
          have HB1 := Lib.hid hb1
          obtain ⟨b2, hb2⟩ : ∃ z, wB o b1 = z := ⟨_, rfl⟩
          rw [hb2] at HO3
          have HB2 := Lib.hid hb2
          obtain ⟨b3, hb3⟩ : ∃ z, wC o b2 = z := ⟨_, rfl⟩
          rw [hb3] at HO3
          have HB3 := Lib.hid hb3
          obtain ⟨b4, hb4⟩ : ∃ z, b3.plain = z := ⟨_, rfl⟩
          rw [hb4] at HO3
          have HB4 := Lib.hid hb4
          clear hb1 hb2 hb3 hb4 ok ob on ow
          have R11 : Hid (∀ W, Below w11.heap.size w11 W → Below w8.heap.size w8 W) := Lib.hid (fun W h => bel2 B11.out h)
          have OCC : Hid (∀ W, Below w11.heap.size w11 W → W.cell? ⟨b, off + k * 30, none⟩ = some (.int .i64 K) ∧ W.cell? ⟨b, off + k * 30 + 1, none⟩ = some (.string ⟨o.b.nm.toArray⟩) ∧ W.cell? ⟨b, off + k * 30 + 28, none⟩ = some (.string ⟨o.nm.toArray⟩) ∧ W.cell? ⟨b, off + k * 30 + 29, none⟩ = some (.float .f64 o.wt)) := Lib.hid (fun W h => OC.out W (DW.out _ (R8.out _ (R11.out W h))))
          obtain ⟨ok, ob, on, ow⟩ := OCC.out w12 HBw12.out
          go_upto_if 110 with (fail)
          go_cut [] (fun wx => Blk wx 36 w11.heap.size (bkL b1) ∧ Below w11.heap.size w11 wx)
          case first =>
            cases kb
            · have hbe : Hid (b1 = b0) := Lib.hid (by rw [← HB1.out]; unfold wA; rw [if_neg (by rw [HK.out]; exact beq_eq_false_iff_ne.1 hkb)])
              go_wp2_with fail
              go_meet
              case rel => exact ⟨by rw [hbe.out]; exact HK12.out, HBw12.out⟩
            · have hbe : Hid (b1 = o.b) := Lib.hid (by rw [← HB1.out]; unfold wA; rw [if_pos (by rw [HK.out]; exact beq_iff_eq.1 hkb)])
              go_wp2_with (first | ((with_reducible show wpList _ _ _ (⟨some 115, _, _, _, _, _⟩ :: _) _ _); refine wpList_loadBk (op := ⟨some 115, _, _, _, _, _⟩) _ rfl (by rfl) b (off + k * 30 + 1) (by rfl) o.b (OB.out w12 (DW.out _ (R8.out _ (R11.out _ HBw12.out)))) _ HLB.out ?_) | ((with_reducible show wpList _ _ _ (⟨none, .store 36 (.tmp 13) _, _, _, _, _⟩ :: _) _ _); refine wpList_storeBA rfl 36 (.tmp 13) _ rfl w11.heap.size (by rfl) (bkL o.b) (by rw [HLB.out]; rfl) (bkL b0) HK12.out (by rw [bkL_len, bkL_len]) (by rw [bkL_len]; exact sizeBk) (bkL_one _) ?_; intro wy hby hgy; have HKy := Lib.hid hby; have HBy := Lib.hid (below_gb HBw12.out hgy (Nat.le_refl _) HBw12.out.size); clear hby hgy))
              go_meet
              case rel => exact ⟨by rw [hbe.out]; exact HKy.out, HBy.out⟩
          case rest =>
          obtain ⟨hkx, hbx⟩ := hcut
          obtain ⟨w13, hwx⟩ : ∃ z, z = wc := ⟨_, rfl⟩
          subst hwx
          have HK13 := Lib.hid hkx
          have HB13 := Lib.hid hbx
          clear hkx hbx ok ob on ow
          obtain ⟨ok, ob, on, ow⟩ := OCC.out w13 HB13.out
          go_upto_if 121 with (fail)
          go_cut [] (fun wx => Blk wx 36 w11.heap.size (bkL b2) ∧ Below w11.heap.size w11 wx)
          case first =>
            by_cases c3 : K = 3
            · have k3 : (K == 3) = true := by rw [c3]; rfl
              have hbe : Hid ({ b1 with wt := o.wt, hw := o.hw } = b2) := Lib.hid (by rw [← HB2.out]; unfold wB; rw [if_pos (by rw [HK.out]; exact c3)])
              clear c3
              go_wp2_with (first | ((with_reducible show wpList _ _ _ (⟨none, .store 34 (.tmp 127) _, _, _, _, _⟩ :: _) _ _); refine wpList_storeB1 rfl 34 (.tmp 127) _ rfl w11.heap.size 25 (by rfl) (.float .f64 o.wt) (by rfl) 36 _ HK13.out (by rw [bkL_len]; decide) (by kernel_rfl) rfl rfl ?_; intro wy hby hgy; rw [bkL_wt b1 o.hw, hbe.out] at hby; have HKy := Lib.hid hby; have HBy := Lib.hid (below_gb HB13.out hgy (Nat.le_refl _) HB13.out.size); clear hby hgy))
              go_meet
              case rel => exact ⟨HKy.out, HBy.out⟩
            · have k3 : (K == 3) = false := beq_eq_false_iff_ne.2 c3
              have hbe : Hid (b2 = b1) := Lib.hid (by rw [← HB2.out]; unfold wB; rw [if_neg (by rw [HK.out]; exact c3)])
              clear c3
              go_wp2_with fail
              go_meet
              case rel => exact ⟨by rw [hbe.out]; exact HK13.out, HB13.out⟩
          case rest =>
          obtain ⟨hkx, hbx⟩ := hcut
          obtain ⟨w14, hwx⟩ : ∃ z, z = wc := ⟨_, rfl⟩
          subst hwx
          have HK14 := Lib.hid hkx
          have HB14 := Lib.hid hbx
          clear hkx hbx ok ob on ow
          obtain ⟨ok, ob, on, ow⟩ := OCC.out w14 HB14.out
          go_upto_region 25 with (fail)
          go_cut [141] (fun s wx => s = .bool (decide (K = 4 ∨ K = 5)) ∧ wx = w14)
          case first =>
            by_cases c4 : K = 4
            · have k4 : (K == 4) = true := by rw [c4]; rfl
              have hd := Lib.hid (congrArg Value.bool (decide_eq_true (show K = 4 ∨ K = 5 from .inl c4)).symm)
              clear c4
              go_wp2_with fail
              go_meet
              case rel => exact ⟨hd.out, rfl⟩
            · have k4 : (K == 4) = false := beq_eq_false_iff_ne.2 c4
              by_cases c5 : K = 5
              · have k5 : (K == 5) = true := by rw [c5]; rfl
                have hd := Lib.hid (congrArg Value.bool (decide_eq_true (show K = 4 ∨ K = 5 from .inr c5)).symm)
                clear c4 c5
                go_wp2_with fail
                go_meet
                case rel => exact ⟨hd.out, rfl⟩
              · have k5 : (K == 5) = false := beq_eq_false_iff_ne.2 c5
                have hd := Lib.hid (congrArg Value.bool (decide_eq_false (show ¬ (K = 4 ∨ K = 5) from fun h => h.elim c4 c5)).symm)
                clear c4 c5
                go_wp2_with fail
                go_meet
                case rel => exact ⟨hd.out, rfl⟩
          case rest =>
          obtain ⟨rfl, hwx⟩ := hcut
          have hwx := hwx.symm
          subst hwx
          obtain ⟨d5, hd5⟩ : ∃ d, decide (K = 4 ∨ K = 5) = d := ⟨_, rfl⟩
          rw [hd5]
          go_upto_if 141 with (fail)
          go_cut [] (fun wx => Blk wx 36 w11.heap.size (bkL b3) ∧ Below w11.heap.size w11 wx)
          case first =>
            cases d5
            · have hbe : Hid (b3 = b2) := Lib.hid (by rw [← HB3.out]; unfold wC; rw [if_neg (by rw [HK.out]; exact of_decide_eq_false hd5)])
              clear hd5
              go_wp2_with fail
              go_meet
              case rel => exact ⟨by rw [hbe.out]; exact HK14.out, HB14.out⟩
            · obtain ⟨k4, hk4⟩ : ∃ d, (K == 4) = d := ⟨_, rfl⟩
              have hbe : Hid ({ b2 with dr := k4 } = b3) := Lib.hid (by rw [← HB3.out]; unfold wC; rw [if_pos (by rw [HK.out]; exact of_decide_eq_true hd5), HK.out, ← hk4]; rfl)
              clear hd5
              go_wp2_with (first | ((with_reducible show wpList _ _ _ (⟨none, .store 4 (.tmp 148) _, _, _, _, _⟩ :: _) _ _); refine wpList_storeB1 rfl 4 (.tmp 148) _ rfl w11.heap.size 26 (by rfl) (.bool k4) (by rfl) 36 _ HK14.out (by rw [bkL_len]; decide) (by kernel_rfl) rfl rfl ?_; intro wy hby hgy; rw [bkL_dr b2 k4, hbe.out] at hby; have HKy := Lib.hid hby; have HBy := Lib.hid (below_gb HB14.out hgy (Nat.le_refl _) HB14.out.size); clear hby hgy))
              go_meet
              case rel => exact ⟨HKy.out, HBy.out⟩
          case rest =>
          obtain ⟨hkx, hbx⟩ := hcut
          obtain ⟨w15, hwx⟩ : ∃ z, z = wc := ⟨_, rfl⟩
          subst hwx
          have HK15 := Lib.hid hkx
          have HB15 := Lib.hid hbx
          clear hkx hbx ok ob on ow
          obtain ⟨ok, ob, on, ow⟩ := OCC.out w15 HB15.out
          have hz := zero_order b3.hw
          have f4 : w15.cell? ⟨w11.heap.size, 25, none⟩ = some (.float .f64 b3.wt) := Blk_10.cell HK15.out (bk_wt b3)
          obtain ⟨zb, hzb⟩ : ∃ z, decide (rgW b3.wt = 0) = z := ⟨_, rfl⟩
          rw [hzb] at hz
          have HZB := Lib.hid hzb
          clear hzb
          go_upto_if 151 with (fail)
          go_cut [] (fun wx => Blk wx 36 w11.heap.size (bkL b4) ∧ Below w11.heap.size w11 wx)
          case first =>
            cases zb
            · have hbe : Hid (b4 = b3) := Lib.hid (by rw [← HB4.out, plain_same]; unfold plainW; rw [if_neg (of_decide_eq_false HZB.out)])
              go_wp2_with fail
              go_meet
              case rel => exact ⟨by rw [hbe.out]; exact HK15.out, HB15.out⟩
            · have hbe : Hid ({ b3 with wt := 0, hw := (by decide) } = b4) := Lib.hid (by rw [← HB4.out]; unfold Bk.plain; congr 1; unfold plainW; rw [if_pos (of_decide_eq_true HZB.out)])
              go_wp2_with (first | ((with_reducible show wpList _ _ _ (⟨none, .store 34 (.tmp 152) _, _, _, _, _⟩ :: _) _ _); refine wpList_storeB1 rfl 34 (.tmp 152) _ rfl w11.heap.size 25 (by rfl) (.float .f64 0) (by rfl) 36 _ HK15.out (by rw [bkL_len]; decide) (by kernel_rfl) rfl rfl ?_; intro wy hby hgy; rw [bkL_wt b3 (show 0 < T64 by decide), hbe.out] at hby; have HKy := Lib.hid hby; have HBy := Lib.hid (below_gb HB15.out hgy (Nat.le_refl _) HB15.out.size); clear hby hgy))
              go_meet
              case rel => exact ⟨HKy.out, HBy.out⟩
          case rest =>
          obtain ⟨hkx, hbx⟩ := hcut
          obtain ⟨w16, hwx⟩ : ∃ z, z = wc := ⟨_, rfl⟩
          subst hwx
          have HK16 := Lib.hid hkx
          have HB16 := Lib.hid hbx
          clear hkx hbx ok ob on ow
          obtain ⟨ok, ob, on, ow⟩ := OCC.out w16 HB16.out
          clear hz f4 ok ob on ow
          have RW : Hid (∀ W, Below w11.heap.size w11 W → Below w8.heap.size w8 W) := R11
          have HK10w : Hid (∀ W, Below w11.heap.size w11 W → Blk W 36 w9.heap.size (bkL (r1.getD bk0))) := Lib.hid (fun W h => Blk_10.below HK10.out L10.out (bel2 B1011.out h))
          obtain ⟨L4, hL4⟩ : ∃ L, (bkL b4).toArray = L := ⟨_, rfl⟩
          have HL4 := Lib.hid hL4
          clear hL4
          go_upto_region 29 with (fail)
          go_cut [159] (fun s wx => s = .bool false ∧ Below w11.heap.size w11 wx)
          case first =>
            cases s1
            · go_wp2_with fail
              go_meet
              case rel => exact ⟨rfl, HB16.out⟩
            · have hr1 : Hid (r1.getD bk0 = b4) := Lib.hid (by rcases HO3.out with h | h; (have := HS1.out; rw [h] at this; cases this); (rw [h]; rfl))
              have HSO := Lib.hid (rsame1_any b4 b4 w16)
              rw [bkQ_self] at HSO
              unfold bkC at HSO
              rw [HL4.out] at HSO
              have R10 := Lib.hid (Blk_10.range (HK10w.out w16 HB16.out))
              rw [hr1.out] at R10
              go_wp2_with (first | ((with_reducible show wpList _ _ _ (⟨some 155, _, _, _, _, _⟩ :: _) _ _); refine wpList_loadBk (op := ⟨some 155, _, _, _, _, _⟩) _ rfl (by rfl) w9.heap.size 0 (by rfl) b4 R10.out _ HL4.out ?_) | ((with_reducible show wpList _ _ _ (⟨some 156, _, _, _, _, _⟩ :: _) _ _); refine wpList_loadBk (op := ⟨some 156, _, _, _, _, _⟩) _ rfl (by rfl) w11.heap.size 0 (by rfl) b4 (Blk_10.range HK16.out) _ HL4.out ?_) | ((with_reducible refine HSO.out.mono ?_); rintro e wy ⟨rfl, hb⟩; have HBy := Lib.hid (bel2 HB16.out hb); clear hb))
              go_meet
              case rel => exact ⟨rfl, HBy.out⟩
          case rest =>
          obtain ⟨rfl, hbx⟩ := hcut
          have HB17 := Lib.hid hbx
          clear hbx
          obtain ⟨w17, hw17⟩ : ∃ z, z = wc := ⟨_, rfl⟩
          subst hw17
          have B17 := Lib.hid (R11.out _ HB17.out)
          obtain ⟨q0, q1⟩ := QC.out w17 B17.out
          have HKP17 := Lib.hid (Blk_10.below HKP.out LP.out (R8.out _ B17.out))
          have HOW : Hid (OwnG eB w17 w6.heap.size (.slice A8 n8 c8) q.l) := Lib.hid (HO8.out.below B17.out)
          have HLP6 := Lib.hid (show gp < w6.heap.size by have := LP.out; have := B6.out.size; omega)
          have HDW := Lib.hid (DW.out _ (R8.out _ B17.out))
          go_wp2_with (first | ((with_reducible show wpList _ _ _ (⟨none, .store 24 (.tmp 3) _, _, _, _, _⟩ :: _) _ _); refine wpList_storeBA rfl 24 (.tmp 3) _ rfl gp (by rfl) [.int .i64 q.ver, .slice A8 n8 c8] (by rfl) _ HKP17.out rfl poolSize (by simp [Value.oneCell']) ?_; intro wz hbz hgz; have HKz := Lib.hid hbz; have HGz := Lib.hid hgz; clear hbz hgz))
          refine ⟨⟨k + 1, q, A8, n8, c8, HLTN.out, by go_num, by rw [HVV.out], HQR, Lib.hid (by have := HQM.out; have := HPL.out; omega), HQ8, HM8, HKz, Lib.hid (HOW.out.kept HGz.out (.inr (fun e => by have := HOW.out.lt _ e; have := HLP6.out; omega))).rd, Lib.hid (fun h0 => by obtain ⟨bb, oo, e, hb⟩ := HOW.out.place h0; exact ⟨bb, oo, e, by have := HLP6.out; omega⟩), Lib.hid (below_gb HDW.out HGz.out (by have := HG1.out; omega) HDW.out.size)⟩, ?_⟩
          have := HLTN.out
          simp [RowKit.intOf]
          omega
        · have hne0 : (er != 0) = true := by rw [bne, beq_eq_false_iff_ne.2 her]; rfl
          obtain rfl := HDN.out her
          clear her
          have HSM := Lib.hid (HSS.out.same (p := q) (q := q) c c8 HNC.out HCM.out HQ8.out HM8.out HN1.out HN8.out w8 (Nat.le_refl _) ((PR.out w8 B8.out).more B8.out.size) (QR.out w8 (Below.refl _ _)))
          rw [samePl_self] at HSM
          go_wp2_with (first | ((with_reducible refine HSM.out.mono ?_); rintro e w9 ⟨rfl, hb⟩; have B9 := Lib.hid (bel2 B8.out hb); clear hb p0 p1 q0 q1))
          refine ⟨⟨k + 1, q, Ap, n, c, HLTN.out, by go_num, rfl, HRP, Lib.hid (by have := HPL.out; omega), HNC, HCM, Lib.hid (Blk_10.below HKP.out LP.out B9.out), Lib.hid ((PR.out w9 B9.out).more B9.out.size), HPO, Lib.hid (DW.out _ B9.out)⟩, ?_⟩
          have := HLTN.out
          simp [RowKit.intOf]
          omega
      · obtain rfl : k = len := by omega
        have h1 : ¬ (k : Int) < (k : Int) := by omega
        clear hlt
        go_wp2_with fail
        go_ret
        exact ⟨rfl, HW.out⟩
end Go.Proofs.Ytajmppaodhpmgaa
