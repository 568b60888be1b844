/-
  What is done and undone (PoolBack): no program.
-/
import Derived.Test.YtajmppaodhpmgaaULaw
namespace Go.Proofs.Ytajmppaodhpmgaa
set_option maxRecDepth 100000
open Go.RowKit Go.Lib

theorem err_two {p : Pl} {o : OpU} (hk : o.kind = 2 ∨ o.kind = 4 ∨ o.kind = 5) {b : Bk} (hf : findB p.l o.nm = some b) (h4 : o.kind = 4 → b.dr = false) (h5 : o.kind = 5 → b.dr = true) (hv : p.ver < 1099511627776) : o.err p = 0 := by
  rw [err_some (by omega) (by rintro (h | h | h); omega; omega; omega) hf, if_neg (by
    rintro (⟨h, hd⟩ | ⟨h, hd⟩)
    · rw [h4 h] at hd; cases hd
    · rw [h5 h] at hd; cases hd), if_neg (by omega)]
theorem back_add {p : Pl} (hp : RightP p) (hv : p.ver ≤ 1000000) {b : Bk} (h : (opAdd b).err p = 0) :
    (opNm 2 b.nm).err (doP p (opAdd b)) = 0 ∧ doP (doP p (opAdd b)) (opNm 2 b.nm) = ⟨p.ver + 2, p.l⟩ := by
  obtain ⟨_, hn, _, _⟩ := err_add rfl h
  have hd := do_yes h
  have hl : (opAdd b).list p.l = insB b.plain p.l := rfl
  have hf : findB (doP p (opAdd b)).l b.nm = some b.plain := by
    rcases do_own hp h with ⟨_, _, h3⟩ | ⟨h1, _⟩ | ⟨h1, _⟩
    · exact h3
    · exact absurd h1 (show ¬ (1 : Int) = 2 by decide)
    · exact absurd h1 (show ¬ 3 ≤ (1 : Int) by decide)
  have he : (opNm 2 b.nm).err (doP p (opAdd b)) = 0 := err_two (o := opNm 2 b.nm) (.inl rfl) hf (fun h => absurd h (show ¬ (2 : Int) = 4 by decide)) (fun h => absurd h (show ¬ (2 : Int) = 5 by decide)) (by rw [hd]; show p.ver + 1 < _; omega)
  refine ⟨he, ?_⟩
  rw [do_yes he, hd]
  show (⟨p.ver + 1 + 1, (insB b.plain p.l).filter (fun x => decide (x.nm ≠ b.nm))⟩ : Pl) = _
  have e := add_remove (l := p.l) (x := b.plain) (find_none hn)
  rw [b.plain_nm] at e
  rw [e, show p.ver + 1 + 1 = p.ver + 2 by omega]
theorem back_drain {p : Pl} (hp : RightP p) (hv : p.ver ≤ 1000000) {s : List UInt8} (h : (opNm 4 s).err p = 0) :
    (opNm 5 s).err (doP p (opNm 4 s)) = 0 ∧ doP (doP p (opNm 4 s)) (opNm 5 s) = ⟨p.ver + 2, p.l⟩ := by
  have hd := do_yes h
  rcases do_own hp h with ⟨h1, _⟩ | ⟨h1, _⟩ | ⟨_, _, b, hb, hs, hd4, _⟩
  · exact absurd h1 (show ¬ (4 : Int) = 1 by decide)
  · exact absurd h1 (show ¬ (4 : Int) = 2 by decide)
  · have hb2 : findB p.l s = some b := hb
    have hs2 : findB (doP p (opNm 4 s)).l s = some ((opNm 4 s).set b) := hs
    have hdr : ((opNm 4 s).set b).dr = true := rfl
    have he : (opNm 5 s).err (doP p (opNm 4 s)) = 0 := err_two (o := opNm 5 s) (.inr (.inr rfl)) hs2 (fun h => absurd h (show ¬ (5 : Int) = 4 by decide)) (fun _ => hdr) (by rw [hd]; show p.ver + 1 < _; omega)
    refine ⟨he, ?_⟩
    rw [do_yes he, hd]
    show (⟨p.ver + 1 + 1, (p.l.map (opNm 4 s).at_).map (opNm 5 s).at_⟩ : Pl) = _
    rw [drain_back hp.rise hb2 (hd4 rfl) rfl rfl rfl rfl, show p.ver + 1 + 1 = p.ver + 2 by omega]
/-- A pool and a backend, boxed. -/
theorem box_pb (w : World) (xs bs : Array Value) : ∃ Y : World, (w.alloc (.cells xs 24)).alloc (.cells bs 36) = Y ∧ Blk Y 24 w.heap.size xs.toList ∧ Blk Y 36 (w.heap.size + 1) bs.toList ∧ Below w.heap.size w Y := by
  refine ⟨_, rfl, Blk_10.alloc (Blk_10.new w _ xs.toList) _, ?_, ((Below.refl w.heap.size w).alloc (Nat.le_refl _) _).alloc (by simp) _⟩
  have h := Blk_10.new (w.alloc (.cells xs 24)) 36 bs.toList
  rw [World.size_alloc] at h
  exact h
end Go.Proofs.Ytajmppaodhpmgaa
