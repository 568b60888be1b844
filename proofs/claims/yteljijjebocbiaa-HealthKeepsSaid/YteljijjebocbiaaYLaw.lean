/-
  What the walks of stage 19's laws share.
-/
import Derived.Test.YteljijjebocbiaaYAwake
import Derived.Test.YteljijjebocbiaaYOpen
namespace Go.Proofs.Yteljijjebocbiaa
set_option maxRecDepth 100000
open Go.RowKit Go.Lib

theorem own_any {α : Type} {E : Enc α} {w : World} {base : Nat} {v : Value} {xs : List α} (h : OwnG E w base v xs) : ∃ A n c, v = .slice A n c ∧ n = xs.length ∧ n ≤ c ∧ c ≤ maxLen ∧ OwnG E w base (.slice A n c) xs := by
  obtain ⟨A, m, c, rfl, h1, h2, h3, h4, _⟩ := h.sl
  exact ⟨A, m, c, rfl, h1, h2, h3, h⟩
theorem big_max {n c : Nat} (hc : n ≤ c) (hm : c ≤ maxLen) : n ≤ 9223372036854775807 := Nat.le_trans (Nat.le_trans hc hm) (by unfold maxLen; decide)
theorem few_l {l : List Hl} (h : fewK (nmsH l) = true) (hX : ∀ x, x ∈ l → HlOk x) : l.length ≤ 50 ∧ ∀ x, x ∈ l → InR x ∧ x.nm.length ≤ 60 := by
  obtain ⟨h1, h2⟩ := (fewK_iff _).1 h
  rw [nms_len] at h1
  exact ⟨h1, fun x hx => ⟨(hX x hx).2, h2 _ (List.mem_map_of_mem hx)⟩⟩
theorem sync_ok {l : List Hl} {ns : List (List UInt8)} (hl : ∀ x, x ∈ l → InR x ∧ x.nm.length ≤ 60) (hs : ∀ s, s ∈ ns → s.length ≤ 60) : ∀ x, x ∈ syncL l ns → InR x ∧ x.nm.length ≤ 60 := by
  intro x hx
  obtain ⟨s, hsm, rfl⟩ := List.mem_map.1 hx
  rw [hlOf_nm]
  refine ⟨?_, hs s (syncN_mem.1 hsm)⟩
  rcases hlOf_place (l := l) (s := s) with ⟨_, e⟩ | ⟨k, h, _, hk, e⟩
  · rw [e]
    exact in0 _ _ _ (by decide) (by decide)
  · rw [e]
    exact (hl h (List.mem_of_getElem? hk)).1
theorem sync_few {l : List Hl} {ns : List (List UInt8)} (h : ns.length ≤ 50) : (syncL l ns).length ≤ 50 := by
  unfold syncL
  rw [List.length_map]
  exact Nat.le_trans (syncN_len ns) h
/-- The same healths are the same. -/
theorem same_self {W : World} {A A' : Option Addr} {n n' c c' : Nat} {b b' : Nat} {LL : List Hl} (h : OwnG eH W b (.slice A n c) LL) (h' : OwnG eH W b' (.slice A' n' c') LL) (hn : LL.length ≤ 1000000) :
    Calls Try.prog 18 #[.slice A n c, .slice A' n' c'] W fun e w' => e = .returned (.bool true) ∧ Below W.heap.size W w' := by
  have hr := h.rd
  have h1 := rsameH_any c c' (n := n) (n' := n') (l := LL) (m := LL) (by have := hr.len; omega) W (Nat.le_refl _) (Nat.le_refl _) hr h'.rd
  rwa [sameH_iff.2 rfl] at h1
theorem texts_self {W : World} {A A' : Option Addr} {n n' c c' : Nat} {b b' : Nat} {LL : List (List UInt8)} (h : OwnG eN W b (.slice A n c) LL) (h' : OwnG eN W b' (.slice A' n' c') LL) (hn : LL.length ≤ 1000000) :
    Calls Try.prog 20 #[.slice A n c, .slice A' n' c'] W fun e w' => e = .returned (.bool true) ∧ Below W.heap.size W w' := by
  have hr := h.rd
  have h1 := rtexts_any c c' (n := n) (n' := n') (l := LL) (m := LL) (by have := hr.len; omega) W hr h'.rd
  rwa [decide_eq_true rfl] at h1
end Go.Proofs.Yteljijjebocbiaa
