/-
  math.IsNaN (split from WM: a seat may have it alone).
  The program: bits, Same (split from WZ).
-/
import Derived.Test.YtajmppaodhpmgaaWR
namespace Go.Proofs.Ytajmppaodhpmgaa
set_option maxRecDepth 100000
open Go.RowKit Go.Lib

theorem isnan_order {u : Nat} (hu : u < T64) : (FloatKind.f64.format.order u u != some Ordering.eq) = nanW u := by
  cases h : nanW u
  · exact (congrArg (fun x => x != some Ordering.eq) (order_self hu h)).trans rfl
  · exact (congrArg (fun x => x != some Ordering.eq) (order_nan hu h u).1).trans rfl
set_option maxHeartbeats 1000000 in
theorem isnan_any {u : Nat} (hu : u < T64) (w : World) : Calls Try.prog 64 #[.float .f64 u] w fun e w' => e = .returned (.bool (nanW u)) ∧ w = w' := by
  have f := isnan_order hu
  go_enter Try.func64, Try.ntmps64
  go_wp2_with fail
  go_ret
  exact ⟨rfl, rfl⟩
end Go.Proofs.Ytajmppaodhpmgaa
namespace Go.Proofs.Ytajmppaodhpmgaa
set_option maxRecDepth 100000
open Go.RowKit Go.Lib Go.Shelf

set_option maxHeartbeats 1000000 in
theorem wbits_any {u : Nat} (hu : u < T64) (w : World) : Calls Try.prog 60 #[.float .f64 u] w fun e w' => e = .returned (.int .u64 (canW u : Int)) ∧ w = w' := by
  have hN := Lib.hid (isnan_any hu w)
  have hb := run_f64bits u
  unfold canW
  cases h : nanW u
  · rw [if_neg (by decide)]
    rw [h] at hN
    clear h hu
    go_enter Try.func60, Try.ntmps60
    go_wp2_with (refine hN.out.mono ?_; rintro e w' ⟨rfl, rfl⟩)
    go_ret
    exact ⟨rfl, rfl⟩
  · rw [if_pos rfl]
    rw [h] at hN
    clear h hu
    go_enter Try.func60, Try.ntmps60
    go_wp2_with (refine hN.out.mono ?_; rintro e w' ⟨rfl, rfl⟩)
    go_ret
    exact ⟨rfl, rfl⟩
set_option maxHeartbeats 1000000 in
theorem wsame_eq {u v : Nat} (hu : u < T64) (hv : v < T64) (w : World) : Calls Try.prog 45 #[.float .f64 u, .float .f64 v] w fun e w' => e = .returned (.bool (decide (canW u = canW v))) ∧ w = w' := by
  have h1 := Lib.hid (fun W => wbits_any hu W)
  have h2 := Lib.hid (fun W => wbits_any hv W)
  clear hu hv
  obtain ⟨a, ha⟩ : ∃ a, canW u = a := ⟨_, rfl⟩
  obtain ⟨b, hb⟩ : ∃ b, canW v = b := ⟨_, rfl⟩
  rw [ha] at h1
  rw [hb] at h2
  rw [ha, hb]
  clear ha hb
  by_cases h : a = b
  · subst h
    rw [decide_eq_true rfl]
    go_enter Try.func45, Try.ntmps45
    go_wp2_with (first | (refine (h1.out _).mono ?_; rintro e w' ⟨rfl, rfl⟩) | (refine (h2.out _).mono ?_; rintro e w' ⟨rfl, rfl⟩))
    go_ret
    exact ⟨rfl, rfl⟩
  · rw [decide_eq_false h]
    have b1 : ((a : Int) == (b : Int)) = false := beq_eq_false_iff_ne.2 (by omega)
    have b2 : (a == b) = false := beq_eq_false_iff_ne.2 h
    clear h
    go_enter Try.func45, Try.ntmps45
    go_wp2_with (first | (refine (h1.out _).mono ?_; rintro e w' ⟨rfl, rfl⟩) | (refine (h2.out _).mono ?_; rintro e w' ⟨rfl, rfl⟩))
    go_ret
    exact ⟨rfl, rfl⟩
theorem wsame_any {u v : Nat} (hu : u < T64) (hv : v < T64) (w : World) : Calls Try.prog 45 #[.float .f64 u, .float .f64 v] w fun e w' => e = .returned (.bool (decide (canW u = canW v))) ∧ Below w.heap.size w w' :=
  (wsame_eq hu hv w).mono fun _ _ h => ⟨h.1, by rw [← h.2]; exact Below.refl _ _⟩
end Go.Proofs.Ytajmppaodhpmgaa
