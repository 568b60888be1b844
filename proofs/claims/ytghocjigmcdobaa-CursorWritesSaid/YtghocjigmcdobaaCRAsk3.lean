/-
  The contracts of the document's reader: Ask, of a varint, of a text.
-/
import Derived.Test.YtghocjigmcdobaaCRAsk2
namespace Go.Proofs.Ytghocjigmcdobaa
open Go.RowKit Go.Lib

set_option maxRecDepth 100000 in
set_option maxHeartbeats 2000000 in
/-- A varint. -/
theorem rask_var {w : World} {A : Option Addr} {cap : Nat} {s : RS} (h : RMay w A cap s) (hf : s.fe = 0) (z : Int) (big : Bool) :
    Calls Try.prog 24 #[rvOf A cap s, .int .i64 2, .int .i64 z, .bool big] w (RGave w A cap (s.look.next s.lookK) s.lookN []) := by
  have hle := h.le
  have hfew := h.few
  have hroom := h.room
  have hfr := run_from8 A s.xs.length cap s.at_ hle
  have hfrom := h.rd.from hle cap hroom
  obtain ⟨g, hg⟩ : ∃ g, s.got = g := ⟨_, rfl⟩
  have hV : ∀ W : World, Rd W w.heap.size (cutA A cap s.at_) (s.xs.length - s.at_) (s.xs.drop s.at_) → Calls Try.prog 52 #[.slice (cutA A cap s.at_) (s.xs.length - s.at_) (cap - s.at_)] W fun e w' => e = .returned (.tuple #[.int .u64 (g.n : Nat), .int .i64 (g.k : Nat), .int .i64 (g.e : Nat)]) ∧ W = w' := by
    intro W hW
    rw [← hg]
    exact rvget_any _ _ _ _ (by omega) W hW
  have HV := Lib.hid hV
  clear hV
  by_cases h0 : g.e = 0
  · obtain ⟨e1, e2, e3⟩ := RS.look_0 hf (by rw [hg]; exact h0)
    obtain ⟨b1, b2⟩ := got_fits (s.xs.drop s.at_) (by show s.got.e = 0; rw [hg]; exact h0)
    change s.got.n < _ at b1
    change s.got.k ≤ _ at b2
    rw [List.length_drop] at b2
    have hnx : s.next s.got.k = ⟨s.xs, s.at_ + s.got.k, s.fa, 0⟩ := by
      rw [RS.next_fits hf (by unfold RS.left; exact b2), hf]
    rw [e1, e2, e3, hnx]
    rw [hg] at b1 b2 ⊢
    unfold rvOf
    rw [hf]
    have hk2 : (s.at_ : Int) + (g.k : Int) ≤ 100000 := by omega
    have hb : ((g.e : Int) != 0) = false := by rw [h0]; rfl
    have hb' : (g.e != 0) = false := by rw [h0]; rfl
    clear e1 e2 e3 hg h0 hf hnx
    go_enter Try.func24, Try.ntmps24
    go_wp2_with fail
    refine Calls.mono (HV.out _ (hfrom.alloc (Nat.le_refl _) _ |>.alloc (by simp) _)) ?_
    rintro e w1 ⟨rfl, rfl⟩
    go_wp2_with fail
    refine bodyPost_ret (v := .tuple #[rvOf A cap ⟨s.xs, s.at_ + g.k, s.fa, 0⟩, .int .u64 (g.n : Nat), .slice none 0 0]) (by simp [results, Try.results24, go_sem, rvOf]) rfl ⟨_, rfl, Own8.nil_ _ _, ?_⟩
    repeat (first | exact Below.refl _ _ | refine Below.alloc ?_ (by simp <;> omega) _)
  · obtain ⟨e1, e2, e3⟩ := RS.look_1 hf (by rw [hg]; exact h0)
    rw [e1, e2, e3, RS.next_yes (by show s.got.e ≠ 0; rw [hg]; exact h0), hg]
    unfold rvOf
    rw [hf]
    have hb : ((g.e : Int) != 0) = true := bne_iff_ne.2 (by omega)
    have hb' : (g.e != 0) = true := bne_iff_ne.2 (by omega)
    clear e1 e2 e3 hg h0 hf
    go_enter Try.func24, Try.ntmps24
    go_wp2_with fail
    refine Calls.mono (HV.out _ (hfrom.alloc (Nat.le_refl _) _ |>.alloc (by simp) _)) ?_
    rintro e w1 ⟨rfl, rfl⟩
    go_wp2_with fail
    refine (rfail_any _ _ _ _ _ 0 g.e _).mono ?_
    rintro e w1 ⟨rfl, rfl⟩
    go_wp2_with fail
    refine bodyPost_ret (v := .tuple #[rvOf A cap ⟨s.xs, s.at_, s.at_, g.e⟩, .int .u64 0, .slice none 0 0]) (by simp [results, Try.results24, go_sem, rvOf]) rfl ⟨_, rfl, Own8.nil_ _ _, ?_⟩
    repeat (first | exact Below.refl _ _ | refine Below.alloc ?_ (by simp <;> omega) _)

set_option maxRecDepth 100000 in
set_option maxHeartbeats 4000000 in
/-- A text. -/
theorem rask_text {w : World} {A : Option Addr} {cap : Nat} {s : RS} (h : RMay w A cap s) (hf : s.fe = 0) (z : Int) (hz0 : -9223372036854775808 ≤ z) (hz1 : z ≤ 9223372036854775807) (big : Bool) :
    Calls Try.prog 24 #[rvOf A cap s, .int .i64 4, .int .i64 z, .bool big] w (RGave w A cap (s.text z) 0 (s.textB z)) := by
  have hle := h.le
  have hfew := h.few
  have hroom := h.room
  have hfr := run_from8 A s.xs.length cap s.at_ hle
  have hfrom := h.rd.from hle cap hroom
  obtain ⟨g, hg⟩ : ∃ g, s.got = g := ⟨_, rfl⟩
  have hV : ∀ W : World, Rd W w.heap.size (cutA A cap s.at_) (s.xs.length - s.at_) (s.xs.drop s.at_) → Calls Try.prog 52 #[.slice (cutA A cap s.at_) (s.xs.length - s.at_) (cap - s.at_)] W fun e w' => e = .returned (.tuple #[.int .u64 (g.n : Nat), .int .i64 (g.k : Nat), .int .i64 (g.e : Nat)]) ∧ W = w' := by
    intro W hW
    rw [← hg]
    exact rvget_any _ _ _ _ (by omega) W hW
  have HV := Lib.hid hV
  clear hV
  by_cases h0 : g.e = 0
  · obtain ⟨e1, e2, e3⟩ := RS.look_0 hf (by rw [hg]; exact h0)
    have hb0 : s.look.fe = 0 := by rw [e1]; exact hf
    obtain ⟨b1, b2⟩ := got_fits (s.xs.drop s.at_) (by show s.got.e = 0; rw [hg]; exact h0)
    change s.got.n < _ at b1
    change s.got.k ≤ _ at b2
    rw [List.length_drop] at b2
    have t1 := @RS.text_long s hb0 z
    have t2 := @RS.text_short s hb0 z
    have t3 := @RS.text_fits s hb0 z
    rw [hg] at b1 b2 t1 t2 t3
    have T1 := Lib.hid t1
    have T2 := Lib.hid t2
    have T3 := Lib.hid t3
    clear t1 t2 t3 e1 e2 e3 hb0
    have hb : ((g.e : Int) != 0) = false := by rw [h0]; rfl
    have hb' : (g.e != 0) = false := by rw [h0]; rfl
    obtain ⟨n, hn⟩ : ∃ n, g.n = n := ⟨_, rfl⟩
    obtain ⟨k, hk⟩ : ∃ k, g.k = k := ⟨_, rfl⟩
    rw [hn] at b1 HV T1 T2 T3
    rw [hk] at b2 HV T2 T3
    have hlf : s.left = s.xs.length - s.at_ := rfl
    rw [hlf] at T2 T3
    clear hn hk hg h0 hlf
    by_cases hz : z < 0
    · rw [(T1.out (.inl hz)).1, (T1.out (.inl hz)).2]
      unfold rvOf
      rw [hf]
      clear hf
      go_enter Try.func24, Try.ntmps24
      go_wp2_with fail
      refine Calls.mono (HV.out _ (hfrom.alloc (Nat.le_refl _) _ |>.alloc (by simp) _)) ?_
      rintro e w1 ⟨rfl, rfl⟩
      go_wp2_with fail
      refine (rfail_any _ _ _ _ _ 0 4 _).mono ?_
      rintro e w1 ⟨rfl, rfl⟩
      go_wp2_with fail
      refine bodyPost_ret (v := .tuple #[rvOf A cap ⟨s.xs, s.at_, s.at_, 4⟩, .int .u64 0, .slice none 0 0]) (by simp [results, Try.results24, go_sem, rvOf]) rfl ⟨_, rfl, Own8.nil_ _ _, ?_⟩
      repeat (first | exact Below.refl _ _ | refine Below.alloc ?_ (by simp <;> omega) _)
    · have hz' : (0 : Int) ≤ z := by omega
      by_cases hzn : z < (n : Int)
      · rw [(T1.out (.inr hzn)).1, (T1.out (.inr hzn)).2]
        unfold rvOf
        rw [hf]
        clear hf hz
        go_enter Try.func24, Try.ntmps24
        go_wp2_with fail
        refine Calls.mono (HV.out _ (hfrom.alloc (Nat.le_refl _) _ |>.alloc (by simp) _)) ?_
        rintro e w1 ⟨rfl, rfl⟩
        go_wp2_with fail
        refine (rfail_any _ _ _ _ _ 0 4 _).mono ?_
        rintro e w1 ⟨rfl, rfl⟩
        go_wp2_with fail
        refine bodyPost_ret (v := .tuple #[rvOf A cap ⟨s.xs, s.at_, s.at_, 4⟩, .int .u64 0, .slice none 0 0]) (by simp [results, Try.results24, go_sem, rvOf]) rfl ⟨_, rfl, Own8.nil_ _ _, ?_⟩
        repeat (first | exact Below.refl _ _ | refine Below.alloc ?_ (by simp <;> omega) _)
      · have hnz : ¬ (z < 0 ∨ z < (n : Int)) := by omega
        have hzn' : (n : Int) ≤ z := by omega
        by_cases hq : (s.xs.length : Int) - (s.at_ : Int) - (k : Int) < (n : Int)
        · have hs : s.xs.length - s.at_ < k + n := by omega
          rw [(T2.out hnz hs).1, (T2.out hnz hs).2]
          unfold rvOf
          rw [hf]
          clear hf hz hzn hnz hs
          go_enter Try.func24, Try.ntmps24
          go_wp2_with fail
          refine Calls.mono (HV.out _ (hfrom.alloc (Nat.le_refl _) _ |>.alloc (by simp) _)) ?_
          rintro e w1 ⟨rfl, rfl⟩
          go_wp2_with fail
          refine (rfail_any _ _ _ _ _ 0 2 _).mono ?_
          rintro e w1 ⟨rfl, rfl⟩
          go_wp2_with fail
          refine bodyPost_ret (v := .tuple #[rvOf A cap ⟨s.xs, s.at_, s.at_, 2⟩, .int .u64 0, .slice none 0 0]) (by simp [results, Try.results24, go_sem, rvOf]) rfl ⟨_, rfl, Own8.nil_ _ _, ?_⟩
          repeat (first | exact Below.refl _ _ | refine Below.alloc ?_ (by simp <;> omega) _)
        · have hs : ¬ s.xs.length - s.at_ < k + n := by omega
          have hq' : (n : Int) ≤ (s.xs.length : Int) - (s.at_ : Int) - (k : Int) := by omega
          rw [(T3.out hnz hs).1, (T3.out hnz hs).2]
          have hadd : s.at_ + k + n ≤ s.xs.length := by omega
          have hcut := run_cut8 A s.xs.length cap (s.at_ + k) n (by omega)
          simp only [Int.natCast_add] at hcut
          have hcutrd := h.rd.cut hadd cap hroom
          unfold rvOf
          rw [hf]
          have hsum : (s.at_ : Int) + (k : Int) + (n : Int) ≤ 100000 := by omega
          have B0 : Blk4 (((w.alloc (.cells #[.slice A s.xs.length cap, .int .i64 (s.at_ : Int), .int .i64 (s.fa : Int), .int .i64 0] 46)).alloc (.cells #[.slice none 0 0, .int .i64 0, .int .i64 0, .int .i64 0] 46)).alloc (.cells #[] 5)) w.heap.size 46 (.slice A s.xs.length cap) (.int .i64 (s.at_ : Int)) (.int .i64 (s.fa : Int)) (.int .i64 0) := ((Blk4.new w).alloc _).alloc _
          have B1 : Blk4 (((w.alloc (.cells #[.slice A s.xs.length cap, .int .i64 (s.at_ : Int), .int .i64 (s.fa : Int), .int .i64 0] 46)).alloc (.cells #[.slice none 0 0, .int .i64 0, .int .i64 0, .int .i64 0] 46)).alloc (.cells #[] 5)) (w.heap.size + 1) 46 (.slice none 0 0) (.int .i64 0) (.int .i64 0) (.int .i64 0) := by
            have h := (Blk4.new (t := 46) (v0 := .slice none 0 0) (v1 := .int .i64 0) (v2 := .int .i64 0) (v3 := .int .i64 0) (w.alloc (.cells #[.slice A s.xs.length cap, .int .i64 (s.at_ : Int), .int .i64 (s.fa : Int), .int .i64 0] 46))).alloc (.cells #[] 5)
            rw [World.size_alloc] at h
            exact h
          have how := empty8 (base := w.heap.size + 2) ((w.alloc (.cells #[.slice A s.xs.length cap, .int .i64 (s.at_ : Int), .int .i64 (s.fa : Int), .int .i64 0] 46)).alloc (.cells #[.slice none 0 0, .int .i64 0, .int .i64 0, .int .i64 0] 46)) (by simp)
          have hB3 : Below w.heap.size w (((w.alloc (.cells #[.slice A s.xs.length cap, .int .i64 (s.at_ : Int), .int .i64 (s.fa : Int), .int .i64 0] 46)).alloc (.cells #[.slice none 0 0, .int .i64 0, .int .i64 0, .int .i64 0] 46)).alloc (.cells #[] 5)) := by
            repeat (first | exact Below.refl _ _ | refine Below.alloc ?_ (by simp <;> omega) _)
          have hrd := hcutrd.below hB3
          simp only [World.size_alloc] at how
          clear hf hz hzn hnz hq
          go_enter Try.func24, Try.ntmps24
          go_wp2_with fail
          refine Calls.mono (HV.out _ (hfrom.alloc (Nat.le_refl _) _ |>.alloc (by simp) _)) ?_
          rintro e w1 ⟨rfl, rfl⟩
          go_wp2_with (at_builtin; refine wpList_append8 rfl _ _ rfl (w.heap.size + 2) _ [] (by rfl) how _ _ _ _ ((s.xs.drop (s.at_ + k)).take n) (by rfl) hrd (by simp <;> omega) (by simp <;> omega) ?_; intro v' w1 hown' hgrow _; have b0 := B0.grown hgrow (by simp [Value.ownBlock]; omega); have b1 := B1.grown hgrow (by simp [Value.ownBlock]); have p0 := b0.c0; have p1 := b0.c1; have p2 := b0.c2; have p3 := b0.c3; have q0 := b1.c0; have q1 := b1.c1; have q2 := b1.c2; have q3 := b1.c3; have y1 := b0.fz 1; have z0 := b1.fz 0; have z1 := b1.fz 1; have z2 := b1.fz 2; have z3 := b1.fz 3)
          have hfin := (b1.far (p := ⟨w.heap.size, 1, none⟩) (by simp) (.int .i64 ((s.at_ : Int) + (k : Int) + (n : Int)))).all (.slice A s.xs.length cap) (.int .i64 ((s.at_ : Int) + (k : Int) + (n : Int))) (.int .i64 (s.fa : Int)) (.int .i64 0)
          refine bodyPost_ret (v := .tuple #[.agg #[.slice A s.xs.length cap, .int .i64 ((s.at_ : Int) + (k : Int) + (n : Int)), .int .i64 (s.fa : Int), .int .i64 0], .int .u64 0, v']) (rresults rfl _ _ (w.heap.size + 1) rfl hfin) rfl ?_
          obtain ⟨t1, t2⟩ := rtail (hB3.grown hgrow (by simp <;> omega) (fun k hk => by have := how.lt k hk; omega)) hown' (.int .i64 ((s.at_ : Int) + (k : Int) + (n : Int))) (.slice A s.xs.length cap) (.int .i64 ((s.at_ : Int) + (k : Int) + (n : Int))) (.int .i64 (s.fa : Int)) (.int .i64 0)
          exact ⟨v', rfl, t1, t2⟩
  · rw [(RS.text_bad (s := s) (by rw [(RS.look_1 hf (by rw [hg]; exact h0)).1]; show s.got.e ≠ 0; rw [hg]; exact h0) z).1, (RS.text_bad (s := s) (by rw [(RS.look_1 hf (by rw [hg]; exact h0)).1]; show s.got.e ≠ 0; rw [hg]; exact h0) z).2, (RS.look_1 hf (by rw [hg]; exact h0)).1, hg]
    unfold rvOf
    rw [hf]
    have hb : ((g.e : Int) != 0) = true := bne_iff_ne.2 (by omega)
    have hb' : (g.e != 0) = true := bne_iff_ne.2 (by omega)
    clear hg h0 hf
    go_enter Try.func24, Try.ntmps24
    go_wp2_with fail
    refine Calls.mono (HV.out _ (hfrom.alloc (Nat.le_refl _) _ |>.alloc (by simp) _)) ?_
    rintro e w1 ⟨rfl, rfl⟩
    go_wp2_with fail
    refine (rfail_any _ _ _ _ _ 0 g.e _).mono ?_
    rintro e w1 ⟨rfl, rfl⟩
    go_wp2_with fail
    refine bodyPost_ret (v := .tuple #[rvOf A cap ⟨s.xs, s.at_, s.at_, g.e⟩, .int .u64 0, .slice none 0 0]) (by simp [results, Try.results24, go_sem, rvOf]) rfl ⟨_, rfl, Own8.nil_ _ _, ?_⟩
    repeat (first | exact Below.refl _ _ | refine Below.alloc ?_ (by simp <;> omega) _)

end Go.Proofs.Ytghocjigmcdobaa
