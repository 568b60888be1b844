/-
  The document's Right of a weight, and Fair.
-/
import Derived.Test.YtajmppaodhpmgaaURef2
import Derived.Test.YtajmppaodhpmgaaWP
import Derived.Test.YtajmppaodhpmgaaWQ
namespace Go.Proofs.Ytajmppaodhpmgaa
set_option maxRecDepth 100000
open Go.RowKit Go.Lib

theorem rright14_any {u : Nat} (hu : u < T64) (w : World) : Calls Try.prog 37 #[.float .f64 u] w fun e w' => e = .returned (.bool (wtW u)) ∧ w = w' := by
  have HQ := Lib.hid (rqu_any hu w)
  generalize quW u = q at *
  generalize wtW u = r at *
  clear hu
  go_enter Try.func37, Try.ntmps37
  go_wp2_with fail
  refine HQ.out.mono ?_
  rintro e w' ⟨rfl, rfl⟩
  go_wp2_with fail
  go_ret
  exact ⟨rfl, rfl⟩
/-- A whole address loaded out of the middle of a block. -/
theorem wpList_loadAdU {w : World} {ops : Array Oper} {rest : List Oper} {op : Oper} {a : Act} {Q : Exit → Act → World → Prop} (x : Operand) (ho : op.op = .load 32 x) (hw : Region.wanted op (yielded ops a.tmps) = true)
    (g o : Nat) (hx : a.eval x = .pointer (some ⟨g, o, none⟩)) (A : Ad) (h : A.b.length = 16) (hb : w.rangeAt g o (adL A)) (C : Value) (hC : adC A = C)
    (hk : wpList Try.prog ops Q rest (a.put op.dst C) w) : wpList Try.prog ops Q (op :: rest) a w := by
  subst hC
  exact BigFrame.wpList_want hw fun _ hK => wp_load_mid 32 x ho g o hx (adL A) _ hb Try.underlying32 rfl (sizeAdL h) (hK _ _ hk)
theorem bk_range {b : Bk} {w : World} {T : TypeId} {g : Nat} (h : Blk w T g (bkL b)) : w.rangeAt g 1 (adL b.ad) :=
  Blk_10.mid h (pre := [strV b.nm]) (post := .int .i64 b.port :: (b.mac.map v8 ++ [.float .f64 b.wt, .bool b.dr])) rfl rfl
set_option maxHeartbeats 4000000 in
theorem rfair_any (b : Bk) (hnm : b.nm.length ≤ 1000000) (w : World) : Calls Try.prog 30 #[bkC b] w fun e w' => e = .returned (.bool (fairB b)) ∧ Below w.heap.size w w' := by
  obtain ⟨Y, hY⟩ : ∃ Y, w.alloc (.cells (bkL b).toArray 36) = Y := ⟨_, rfl⟩
  have hT : Blk Y 36 w.heap.size (bkL b) := by rw [← hY]; exact Blk_10.new w _ _
  have hB : Below w.heap.size w Y := by rw [← hY]; exact (Below.refl w.heap.size w).alloc (Nat.le_refl _) _
  have hlt := Blk_10.lt hT
  have hN := rname_any b.nm hnm Y
  have hS := rshort_any b.hb Y
  have HWT := fun (W : World) => Lib.hid (rright14_any b.hw W)
  have q0 : Y.cell? ⟨w.heap.size, 0, none⟩ = some (.string ⟨b.nm.toArray⟩) := Blk_10.cell hT (bk_nm b)
  have q1 := Blk_10.cell hT (bk_six b)
  have q2 := Blk_10.cell hT (bk_port b)
  have q4 := Blk_10.cell hT (bk_wt b)
  have hR := bk_range hT
  have HA := Lib.hid b.hb
  obtain ⟨C, hC⟩ : ∃ C, adC b.ad = C := ⟨_, rfl⟩
  rw [hC] at hS
  have HC := Lib.hid hC
  have hv : fairB b = (nameB b.nm && (b.ad.six || shortB b.ad) && decide (1 ≤ b.port ∧ b.port ≤ 65535) && wtW b.wt) := rfl
  obtain ⟨r, hr⟩ : ∃ r, fairB b = r := ⟨_, rfl⟩
  rw [hr] at hv
  rw [hr]
  unfold bkC
  obtain ⟨L, hL⟩ : ∃ L, (bkL b).toArray = L := ⟨_, rfl⟩
  rw [hL]
  rw [hL] at hY
  obtain ⟨nb, e1⟩ : ∃ x, nameB b.nm = x := ⟨_, rfl⟩
  obtain ⟨sb, e2⟩ : ∃ x, shortB b.ad = x := ⟨_, rfl⟩
  obtain ⟨tb, e3⟩ : ∃ x, wtW b.wt = x := ⟨_, rfl⟩
  obtain ⟨xb, e4⟩ : ∃ x, b.ad.six = x := ⟨_, rfl⟩
  obtain ⟨po, e5⟩ : ∃ x, b.port = x := ⟨_, rfl⟩
  rw [e1, e2, e3, e4, e5] at hv
  rw [e1] at hN
  rw [e2] at hS
  rw [e3] at HWT
  rw [e4] at q1
  rw [e5] at q2
  rw [← hY] at hN q0 q1 q2 q4 hS hR hlt hB
  have HN := Lib.hid hN
  have HS := Lib.hid hS
  have HR := Lib.hid hR
  have HV := Lib.hid hv
  have HB := Lib.hid hB
  have HLT := Lib.hid hlt
  clear hN hS hR hv hB hlt hY hT hC hr hL e1 e2 e3 e4 e5 hnm
  cases nb
  · clear q1 q2 q4
    go_enter Try.func30, Try.ntmps30
    go_wp2_with fail
    refine HN.out.mono ?_
    rintro e w2 ⟨rfl, rfl⟩
    go_wp2_with fail
    go_ret
    exact ⟨by rw [HV.out]; first | (simp [*]; done) | (simp; intros; omega), HB.out⟩
  · by_cases h1 : 1 ≤ po
    · by_cases h2 : po ≤ 65535
      · cases xb
        · cases sb
          · go_enter Try.func30, Try.ntmps30
            go_wp2_with fail
            refine HN.out.mono ?_
            rintro e w2 ⟨rfl, rfl⟩
            go_wp2_with ((with_reducible show wpList _ _ _ (⟨some 12, _, _, _, _, _⟩ :: _) _ _); refine wpList_loadAdU _ rfl (by rfl) w.heap.size 1 (by rfl) b.ad HA.out HR.out C HC.out ?_)
            refine HS.out.mono ?_
            rintro e w2 ⟨rfl, h2⟩
            have q2b := (h2.cell (p := ⟨w.heap.size, 18, none⟩) HLT.out).trans q2
            have q4b := (h2.cell (p := ⟨w.heap.size, 25, none⟩) HLT.out).trans q4
            have HB2 := Lib.hid (HB.out.trans (h2.mono HB.out.size))
            clear h2 q2 q4
            go_wp2_with fail
            go_ret
            exact ⟨by rw [HV.out]; first | (simp [*]; done) | (simp; intros; omega), HB2.out⟩
          · go_enter Try.func30, Try.ntmps30
            go_wp2_with fail
            refine HN.out.mono ?_
            rintro e w2 ⟨rfl, rfl⟩
            go_wp2_with ((with_reducible show wpList _ _ _ (⟨some 12, _, _, _, _, _⟩ :: _) _ _); refine wpList_loadAdU _ rfl (by rfl) w.heap.size 1 (by rfl) b.ad HA.out HR.out C HC.out ?_)
            refine HS.out.mono ?_
            rintro e w2 ⟨rfl, h2⟩
            have q2b := (h2.cell (p := ⟨w.heap.size, 18, none⟩) HLT.out).trans q2
            have q4b := (h2.cell (p := ⟨w.heap.size, 25, none⟩) HLT.out).trans q4
            have HB2 := Lib.hid (HB.out.trans (h2.mono HB.out.size))
            clear h2 q2 q4
            go_wp2_with fail
            refine (HWT _).out.mono ?_
            rintro e w3 ⟨rfl, rfl⟩
            go_wp2_with fail
            go_ret
            exact ⟨by rw [HV.out]; first | (simp [*]; done) | (simp; intros; omega), HB2.out⟩
        · go_enter Try.func30, Try.ntmps30
          go_wp2_with fail
          refine HN.out.mono ?_
          rintro e w2 ⟨rfl, rfl⟩
          go_wp2_with fail
          refine (HWT _).out.mono ?_
          rintro e w3 ⟨rfl, rfl⟩
          go_wp2_with fail
          go_ret
          exact ⟨by rw [HV.out]; first | (simp [*]; done) | (simp; intros; omega), HB.out⟩
      · cases xb
        · cases sb
          · go_enter Try.func30, Try.ntmps30
            go_wp2_with fail
            refine HN.out.mono ?_
            rintro e w2 ⟨rfl, rfl⟩
            go_wp2_with ((with_reducible show wpList _ _ _ (⟨some 12, _, _, _, _, _⟩ :: _) _ _); refine wpList_loadAdU _ rfl (by rfl) w.heap.size 1 (by rfl) b.ad HA.out HR.out C HC.out ?_)
            refine HS.out.mono ?_
            rintro e w2 ⟨rfl, h2⟩
            have q2b := (h2.cell (p := ⟨w.heap.size, 18, none⟩) HLT.out).trans q2
            have q4b := (h2.cell (p := ⟨w.heap.size, 25, none⟩) HLT.out).trans q4
            have HB2 := Lib.hid (HB.out.trans (h2.mono HB.out.size))
            clear h2 q2 q4
            go_wp2_with fail
            go_ret
            exact ⟨by rw [HV.out]; first | (simp [*]; done) | (simp; intros; omega), HB2.out⟩
          · go_enter Try.func30, Try.ntmps30
            go_wp2_with fail
            refine HN.out.mono ?_
            rintro e w2 ⟨rfl, rfl⟩
            go_wp2_with ((with_reducible show wpList _ _ _ (⟨some 12, _, _, _, _, _⟩ :: _) _ _); refine wpList_loadAdU _ rfl (by rfl) w.heap.size 1 (by rfl) b.ad HA.out HR.out C HC.out ?_)
            refine HS.out.mono ?_
            rintro e w2 ⟨rfl, h2⟩
            have q2b := (h2.cell (p := ⟨w.heap.size, 18, none⟩) HLT.out).trans q2
            have q4b := (h2.cell (p := ⟨w.heap.size, 25, none⟩) HLT.out).trans q4
            have HB2 := Lib.hid (HB.out.trans (h2.mono HB.out.size))
            clear h2 q2 q4
            go_wp2_with fail
            go_ret
            exact ⟨by rw [HV.out]; first | (simp [*]; done) | (simp; intros; omega), HB2.out⟩
        · go_enter Try.func30, Try.ntmps30
          go_wp2_with fail
          refine HN.out.mono ?_
          rintro e w2 ⟨rfl, rfl⟩
          go_wp2_with fail
          go_ret
          exact ⟨by rw [HV.out]; first | (simp [*]; done) | (simp; intros; omega), HB.out⟩
    · cases xb
      · cases sb
        · go_enter Try.func30, Try.ntmps30
          go_wp2_with fail
          refine HN.out.mono ?_
          rintro e w2 ⟨rfl, rfl⟩
          go_wp2_with ((with_reducible show wpList _ _ _ (⟨some 12, _, _, _, _, _⟩ :: _) _ _); refine wpList_loadAdU _ rfl (by rfl) w.heap.size 1 (by rfl) b.ad HA.out HR.out C HC.out ?_)
          refine HS.out.mono ?_
          rintro e w2 ⟨rfl, h2⟩
          have q2b := (h2.cell (p := ⟨w.heap.size, 18, none⟩) HLT.out).trans q2
          have q4b := (h2.cell (p := ⟨w.heap.size, 25, none⟩) HLT.out).trans q4
          have HB2 := Lib.hid (HB.out.trans (h2.mono HB.out.size))
          clear h2 q2 q4
          go_wp2_with fail
          go_ret
          exact ⟨by rw [HV.out]; first | (simp [*]; done) | (simp; intros; omega), HB2.out⟩
        · go_enter Try.func30, Try.ntmps30
          go_wp2_with fail
          refine HN.out.mono ?_
          rintro e w2 ⟨rfl, rfl⟩
          go_wp2_with ((with_reducible show wpList _ _ _ (⟨some 12, _, _, _, _, _⟩ :: _) _ _); refine wpList_loadAdU _ rfl (by rfl) w.heap.size 1 (by rfl) b.ad HA.out HR.out C HC.out ?_)
          refine HS.out.mono ?_
          rintro e w2 ⟨rfl, h2⟩
          have q2b := (h2.cell (p := ⟨w.heap.size, 18, none⟩) HLT.out).trans q2
          have q4b := (h2.cell (p := ⟨w.heap.size, 25, none⟩) HLT.out).trans q4
          have HB2 := Lib.hid (HB.out.trans (h2.mono HB.out.size))
          clear h2 q2 q4
          go_wp2_with fail
          go_ret
          exact ⟨by rw [HV.out]; first | (simp [*]; done) | (simp; intros; omega), HB2.out⟩
      · go_enter Try.func30, Try.ntmps30
        go_wp2_with fail
        refine HN.out.mono ?_
        rintro e w2 ⟨rfl, rfl⟩
        go_wp2_with fail
        go_ret
        exact ⟨by rw [HV.out]; first | (simp [*]; done) | (simp; intros; omega), HB.out⟩
end Go.Proofs.Ytajmppaodhpmgaa
