/-
  packet.Read: the deferred closure, and what is recovered.
-/
import Derived.Test.YtkmcopenflakkaaKPFine
import Derived.Defers
import Derived.Recover
import Derived.Deep.AppendLies
namespace Go.Proofs.Ytkmcopenflakkaa
open Go.RowKit Go.Lib
set_option maxRecDepth 100000 in
set_option maxHeartbeats 1000000 in
/-- The deferred closure, of a frame that returns: recover finds nothing. -/
theorem catch_idle (p : Addr) (w : World) :
    CallsD Try.prog 40 #[.pointer (some p)] .returning w fun e u' w' => e = .returned (.tuple #[]) ∧ u' = .returning ∧ w = w' := by
  refine callsD_of_wpS Try.func40 rfl fun c₀ cs hu => ?_
  apply wpS_seq
  apply wpS_region
  simp [wpOpsS, go_sem, recoverD, hu, Try.ntmps40, Exit.thenS]
  apply wpS_seq
  apply wpS_seq
  apply wpS_region
  simp [wpOpsS, go_sem, Exit.thenS]
  refine wpS_cond (t := true) (by simp [Act.eval, Array.replicate]) ?_
  simp only [if_true]
  refine wpS_of_wp (wp_ret ?_)
  cases c₀
  simp_all [bodyPostS, results, Try.results40, Exit.thenS]
set_option maxRecDepth 100000 in
set_option maxHeartbeats 2000000 in
/-- The deferred closure, of a frame that panics with a kind: recover finds it, and the result is laid. -/
theorem catch_panic (P : Nat) (p0 : Pk) (h0 : p0.t.Ok) (k : Int) (w : World) (h1 : Blk w 37 P (pkL p0)) :
    CallsD Try.prog 40 #[.pointer (some ⟨P, 0, none⟩)] (.panicking [{ v := .iface 85 (.int .i64 k), recovered := false }]) w fun e u' w' =>
      e = .returned (.tuple #[]) ∧ u' = .panicking [{ v := .iface 85 (.int .i64 k), recovered := true }] ∧ Blk w' 37 P (pkL (kindK k)) ∧ Below P w w' := by
  refine callsD_of_wpS Try.func40 rfl fun c₀ cs hu => ?_
  apply wpS_seq
  apply wpS_region
  simp [wpOpsS, go_sem, recoverD, hu, Try.ntmps40, Exit.thenS]
  apply wpS_seq
  apply wpS_seq
  apply wpS_region
  simp [wpOpsS, go_sem, Exit.thenS]
  refine wpS_cond (t := false) (by simp [Act.eval, Array.replicate]) ?_
  simp only [Bool.false_eq_true, if_false]
  refine wpS_of_wp (wp_skip ?_)
  refine wpS_of_wp ?_
  simp only [Array.replicate_succ, Array.replicate_zero, List.push_toArray, List.nil_append, List.cons_append, List.setIfInBounds_toArray, List.set_cons_succ, List.set_cons_zero, List.append_toArray]
  have hta : ∀ (u : Value) (W : World), (Instr.typeAssert (.iface 85 u) 20 85 true).run Try.prog W = .ok (.tuple #[u, .bool true]) W := fun u W => by
    simp [Instr.typeAssert, run_underlying Try.underlying85]
  have H1 := Lib.hid h1
  have H0 := Lib.hid h0
  clear h1 h0
  go_wp2_with (first
    | ((with_reducible show wpList _ _ _ (⟨some 16, _, _, _, _, _⟩ :: _) _ _); refine wpList_buildw (op := ⟨some 16, _, _, _, _, _⟩) 37 _ rfl (by rfl) _ (by kernel_rfl) (pkL (kindK k)).toArray (built_pk1 k) ?_)
    | ((with_reducible show wpList _ _ _ (⟨none, .store 37 (.tmp 0) _, _, _, _, _⟩ :: _) _ _); refine wpList_storeR_10 (op := ⟨none, .store 37 (.tmp 0) _, _, _, _, _⟩) rfl 37 _ _ rfl P (by rfl) (pkL (kindK k)) (by rfl) _ H1.out (by rw [pkL_len H0.out, pkL_len (p := kindK k) Tu.ok_zero]) (sizePkL Tu.ok_zero) (pkL_one _) ?_))
  exact ⟨rfl, _, rfl, _, results_none rfl _ _ _, rfl, rfl, Blk_10.setRow_ H1.out _, below_setRow (Below.refl P w) (Nat.le_refl _) _⟩
theorem behind_kind {p : Nat} {rest : List UInt8} {n : Nt} : (behind p rest n).kind ≠ 0 → behind p rest n = kindK (behind p rest n).kind := by
  unfold behind
  repeat' split
  all_goals first
    | (intro _; rfl)
    | (intro h; exact absurd rfl h)
theorem readK_kind (xs : List UInt8) : (readK xs).kind ≠ 0 → readK xs = kindK (readK xs).kind := by
  unfold readK
  split
  · exact fun _ => rfl
  · split
    · exact behind_kind
    · split
      · exact behind_kind
      · exact fun _ => rfl
set_option maxRecDepth 100000 in
set_option maxHeartbeats 4000000 in
/-- packet.Read: how a frame is read. -/
theorem pread_any (A : Option Addr) (len cap : Nat) (xs : List UInt8) (hlen : len ≤ 100000) (hcap : len ≤ cap) (hcm : cap ≤ maxLen) (w : World) (hI : Rd w w.heap.size A len xs) :
    Calls Try.prog 21 #[.slice A len cap] w fun e w' => e = .returned (pkC (readK xs)) ∧ Below w.heap.size w w' := by
  have hmf : ∀ (fn : Fn) (first cap : Array Value) (w : World), (Instr.makeFunc fn first cap).run Try.prog w = .ok (.func fn first cap) w := fun _ _ _ _ => rfl
  obtain ⟨Z, hZ⟩ : ∃ Z : World, w.alloc (.cells (pkL (kindK 0)).toArray 37) = Z := ⟨_, rfl⟩
  have hP0 : Blk Z 37 w.heap.size (pkL (kindK 0)) := by rw [← hZ]; exact Blk_10.new w _ _
  have hB0 : Below w.heap.size w Z := by rw [← hZ]; exact (Below.refl w.heap.size w).alloc (Nat.le_refl _) _
  rw [← zeroPk] at hZ
  have HZ := Lib.hid hZ
  have HP0 := Lib.hid hP0
  have HB0 := Lib.hid hB0
  have HR := Lib.hid (fine_any A len cap xs hlen hcap hcm Z ((hI.below hB0).more hB0.size))
  have HO := Lib.hid (readK_ok xs)
  obtain ⟨q, hq⟩ : ∃ q, readK xs = q := ⟨_, rfl⟩
  have HK := Lib.hid (readK_kind xs)
  rw [hq] at HK
  rw [hq] at HR HO ⊢
  clear hZ hP0 hB0 hI hq
  go_enter_defers Try.func21, Try.ntmps21
  go_wp2_with fail
  rw [HZ.out]
  refine HR.out.mono ?_
  rintro e w1 ⟨hg, hb1⟩
  have HB1 := Lib.hid (HB0.out.trans (hb1.mono HB0.out.size))
  have HP1 := Lib.hid (HP0.out.below HP0.out.lt hb1)
  clear hb1
  by_cases hk : q.kind = 0
  · have e1 := hg.1 hk
    subst e1
    clear hg hk
    go_wp2_with ((with_reducible show wpList _ _ _ (⟨none, .store 37 (.tmp 2) _, _, _, _, _⟩ :: _) _ _); refine wpList_storeR_10 (op := ⟨none, .store 37 (.tmp 2) _, _, _, _, _⟩) rfl 37 _ _ rfl w.heap.size (by rfl) (pkL q) (by rfl) _ HP1.out (by rw [pkL_len HO.out, pkL_len (p := kindK 0) Tu.ok_zero]) (sizePkL HO.out) (pkL_one _) ?_)
    refine leaves_cons (f := 40) (args := #[.pointer (some ⟨w.heap.size, 0, none⟩)]) (by simp) (by simp [go_sem]) ?_
    refine (catch_idle _ _).mono ?_
    rintro e u' w'' ⟨rfl, rfl, rfl⟩
    exact ⟨_, results_pk rfl _ _ w.heap.size (by rfl) _ HO.out (Blk_10.setRow_ HP1.out _), rfl, below_setRow HB1.out (Nat.le_refl _) _⟩
  · have e1 := hg.2 hk
    have HE := Lib.hid (HK.out hk)
    subst e1
    clear hg hk
    refine leaves_cons (f := 40) (args := #[.pointer (some ⟨w.heap.size, 0, none⟩)]) (by simp) (by simp [go_sem]) ?_
    refine (catch_panic w.heap.size _ Tu.ok_zero _ _ HP1.out).mono ?_
    rintro e u' w'' ⟨rfl, rfl, f1, f2⟩
    exact ⟨_, results_pk rfl _ _ w.heap.size (by rfl) _ Tu.ok_zero f1, by rw [← HE.out], HB1.out.trans f2⟩
end Go.Proofs.Ytkmcopenflakkaa
