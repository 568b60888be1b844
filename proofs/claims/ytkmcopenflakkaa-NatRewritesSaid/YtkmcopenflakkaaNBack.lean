/-
  Plain mathematics of stage 12: what P12.2 says of frames. No program is walked here.
-/
import Derived.Test.YtkmcopenflakkaaNTurn
namespace Go.Proofs.Ytkmcopenflakkaa
open Go.RowKit Go.Lib

/-- A fine frame up to the end of its IP packet. -/
structure AtF (xs z : List UInt8) (six : Bool) (n : Nt) (p : Nat) (u : Bool) : Prop where
  f : FineF z six n p u
  zt : z = xs.take (p + n.total)
  l : z.length = p + n.total
  r : readK z = readK xs
  x : p + n.total ≤ xs.length
theorem at_fine {xs : List UInt8} (h : (readK xs).kind = 0) : ∃ z six n p u, AtF xs z six n p u := by
  obtain ⟨E, e1, e2, e3, e4, _⟩ := cut_same h
  have hz := e4 []
  rw [List.append_nil] at hz
  obtain ⟨six, n, p, u, hf⟩ := fine_form (xs := xs.take E) (by rw [hz]; exact h)
  have hE : E = p + n.total := by
    have h1 := hf.read
    rw [hz] at h1
    rw [h1] at e1
    have : ((p + n.total : Nat) : Int) = (E : Int) := e1
    omega
  subst hE
  exact ⟨_, six, n, p, u, hf, rfl, by rw [List.length_take]; omega, hz, e3⟩
section
variable {xs z : List UInt8} {six : Bool} {n : Nt} {p : Nat} {u : Bool}
theorem AtF.en (h : AtF xs z six n p u) : (readK xs).en = ((p + n.total : Nat) : Int) ∧ (readK xs).sg = ((p + n.head : Nat) : Int) ∧ (readK xs).net = ((p : Nat) : Int) ∧ (readK xs).t.s.six = six ∧ (readK xs).t.d.six = six ∧ udpT (readK xs).t = u ∧ (readK xs).t.s = n.s ∧ (readK xs).t.d = n.d ∧ (readK xs).t.pr = (prN u : Int) ∧ (readK xs).kind = 0 := by
  have hb := h.f.bnd
  rw [← h.r, h.f.read]
  exact ⟨rfl, rfl, rfl, hb.s6, hb.d6, udp_pr u _ _ _ _, rfl, rfl, rfl, rfl⟩
theorem AtF.nat (h : AtF xs z six n p u) (a : Ad) (m : Int) (dst : Bool) : natL xs a m dst = rewL (plF six n p u dst) z (newB six a) m.toNat := by
  obtain ⟨e1, _, _, e4, _⟩ := h.en
  unfold natL
  rw [e1, e4, Int.toNat_natCast, ← h.zt, ← h.r, h.f.plK]
/-- What is behind the IP packet matters for nothing. -/
theorem AtF.more (h : AtF xs z six n p u) (more : List UInt8) : AtF (xs ++ more) z six n p u := by
  obtain ⟨e1, _⟩ := h.en
  have hk : (readK xs).kind = 0 := h.en.2.2.2.2.2.2.2.2.2
  obtain ⟨E, c1, c2, c3, c4, _⟩ := cut_same hk
  have hE : E = p + n.total := by rw [e1] at c1; omega
  subst hE
  have h1 := c4 (xs.drop (p + n.total) ++ more)
  rw [← List.append_assoc, List.take_append_drop] at h1
  exact ⟨h.f, by rw [List.take_append_of_le_length h.x]; exact h.zt, h.l, h.r.trans h1.symm, by rw [List.length_append]; have := h.x; omega⟩
theorem AtF.self (h : FineF z six n p u) (hl : z.length = p + n.total) : AtF z z six n p u :=
  ⟨h, by rw [← hl, List.take_length], hl, rfl, by omega⟩
theorem AtF.may (h : AtF xs z six n p u) {a : Ad} {m : Int} (hm : mayN (readK xs) a m = true) : ofB six a = true ∧ 0 ≤ m ∧ m ≤ 65535 := by
  obtain ⟨h1, h2, h3, h4⟩ := mayN_yes hm
  rw [h.en.2.2.2.1] at h2
  exact ⟨h2, h3, h4⟩
/-- The frame that is rewritten: fine, with that address and port, and else as it was. -/
theorem AtF.turn (h : AtF xs z six n p u) {a : Ad} (ha : a.b.length = 16) {m : Int} (ho : ofB six a = true) (h0 : 0 ≤ m) (h1 : m ≤ 65535) (dst : Bool) :
    ∃ n', AtF (natL xs a m dst) (natL xs a m dst) six n' p u ∧ n'.head = n.head ∧ n'.total = n.total ∧ readK (natL xs a m dst) = pkN (readK xs) a m dst ∧ segN ((natL xs a m dst).drop p) n' = segW u (segN (z.drop p) n) (newC n u six (segN (z.drop p) n) a m.toNat dst) dst m.toNat := by
  obtain ⟨n', t1, t2, t3, t4, t5, t6⟩ := h.f.turn h.l ha ho (m := m.toNat) (by omega) dst
  have hl : (rewL (plF six n p u dst) z (newB six a) m.toNat).length = p + n'.total := by rw [rewL_len, h.l, t3]
  rw [h.nat]
  have hb := h.f.bnd
  have hS : newC n u six (segN (z.drop p) n) a m.toNat dst < 65536 := by
    have hoa : (oldA ⟨n.s, n.d, 0, 0, 0⟩ dst).b.length = 16 := by unfold oldA; split; exact hb.d; exact hb.s
    have hol : (newB six a).length = ((oldA ⟨n.s, n.d, 0, 0, 0⟩ dst).b.take (szA six)).length := by rw [newB_len ha, List.length_take, hoa]; cases six <;> rfl
    have hw := wat_lt (segN (z.drop p) n) (plc u)
    have := numW_le (u := u) (c := wat (segN (z.drop p) n) (plc u)) (old := (oldA ⟨n.s, n.d, 0, 0, 0⟩ dst).b.take (szA six)) (new := newB six a) (oldp := be2 (wat (segN (z.drop p) n) (poD dst))) (newp := be2 m.toNat) hol rfl (by omega)
    unfold newC
    omega
  obtain ⟨g1, g2, g3, g4, g5, g6⟩ := segW_new (dst := dst) h.f.fl hS (m := m.toNat) (by omega)
  refine ⟨n', AtF.self t1 hl, t2, t3, ?_, t6⟩
  rw [t1.read, ← h.r, h.f.read, t6, g3, g4, g5, t2, t3, t4, t5]
  unfold pkN tuN
  have hm : ((m.toNat : Nat) : Int) = m := by omega
  cases dst
  · rw [if_neg (by decide), if_neg (by decide), if_neg (by decide), if_neg (by decide), if_neg (by decide), hm]
  · rw [if_pos rfl, if_pos rfl, if_pos rfl, if_pos rfl, if_pos rfl, hm]
theorem AtF.len (h : AtF xs z six n p u) (a : Ad) (m : Int) (dst : Bool) : (natL xs a m dst).length = p + n.total := by rw [h.nat, rewL_len, h.l]
/-- The segment's checksum is right then, just if it was. -/
theorem AtF.right (h : AtF xs z six n p u) {a : Ad} (ha : a.b.length = 16) {m : Int} (h0 : 0 ≤ m) (h1 : m ≤ 65535) (dst : Bool) {n' : Nt}
    (hs : segN ((natL xs a m dst).drop p) n' = segW u (segN (z.drop p) n) (newC n u six (segN (z.drop p) n) a m.toNat dst) dst m.toNat) :
    rightS six (pkN (readK xs) a m dst).t.s.b (pkN (readK xs) a m dst).t.d.b u (segN ((natL xs a m dst).drop p) n') = rightS six (readK xs).t.s.b (readK xs).t.d.b u (segN (z.drop p) n) := by
  have hb := h.f.bnd
  have hok : (readK xs).t.Ok := by
    obtain ⟨_, _, _, _, _, _, e1, e2, _⟩ := h.en
    exact ⟨by rw [e1]; exact hb.s, by rw [e2]; exact hb.d⟩
  have := segW_right (six := six) (u := u) (dst := dst) hok (sg := segN (z.drop p) n) ha (m := m.toNat) h.f.fl (by omega) (mi := m)
  rw [hs]
  show rightS six (tuN (readK xs).t a m dst).s.b (tuN (readK xs).t a m dst).d.b u _ = _
  have e : newC n u six (segN (z.drop p) n) a m.toNat dst = numW u (wat (segN (z.drop p) n) (plc u)) ((oldA (readK xs).t dst).b.take (szA six)) (newB six a) (be2 (wat (segN (z.drop p) n) (poD dst))) (be2 m.toNat) := by
    obtain ⟨_, _, _, _, _, _, e1, e2, _⟩ := h.en
    unfold newC oldA
    rw [e1, e2]
  rw [e]
  exact this
/-- The checksums are told by their classes alone: none of all bits 1, but of UDP. -/
structure Tame (z : List UInt8) (six : Bool) (n : Nt) (p : Nat) (u : Bool) : Prop where
  h : six = false → wat z (p + 10) < 65535
  c : (u = true ∧ wat z (p + n.head + plc u) = 0) ∨ InR u (wat z (p + n.head + plc u))
/-- Rewritten to another address, and from there on: as if at once. -/
theorem AtF.twice (h : AtF xs z six n p u) (ht : Tame z six n p u) {a b : Ad} (ha : a.b.length = 16) (hb : b.b.length = 16) {m k : Int} (ho : ofB six a = true) (h0 : 0 ≤ m) (h1 : m ≤ 65535) (dst : Bool) :
    natL (natL xs a m dst) b k dst = natL xs b k dst := by
  obtain ⟨n', t1, t2, t3, _, _⟩ := h.turn ha ho h0 h1 dst
  have hp : plF six n' p u dst = plF six n p u dst := by unfold plF; rw [t2]
  rw [t1.nat, h.nat, hp, h.nat]
  have hl : (newB six b).length = (newB six a).length := by rw [newB_len ha, newB_len hb]
  refine rewL_twice hl (by rw [newB_len ha, h.l]; exact h.f.bnd.ok dst) ?_ ht.c
  intro hh
  cases six
  · exact ht.h rfl
  · exact absurd hh (Nat.lt_irrefl 0)
/-- Rewritten to what stands there already. -/
theorem AtF.same (h : AtF xs z six n p u) (ht : Tame z six n p u) (dst : Bool) : natL xs (oldA (readK xs).t dst) (if dst = true then (readK xs).t.dp else (readK xs).t.sp) dst = z := by
  have hb := h.f.bnd
  have hk := hb.ok dst
  have hl := h.l
  have k8 := hb.k8
  have hpp := plc_po u dst
  have e1 : newB six (oldA (readK xs).t dst) = (z.drop (plF six n p u dst).ad).take (szA six) := by
    have := h.f.old dst (prN u : Nat) (wat (segN (z.drop p) n) 0 : Nat) (wat (segN (z.drop p) n) 2 : Nat)
    rw [List.drop_drop] at this
    have e : p + ((plF six n p u dst).less p).ad = (plF six n p u dst).ad := by
      have : p ≤ (plF six n p u dst).ad := by show p ≤ p + _ + _; omega
      show p + ((plF six n p u dst).ad - p) = _
      omega
    rw [e] at this
    rw [this, ← h.r, h.f.read]
    rfl
  have e2 : (if dst = true then (readK xs).t.dp else (readK xs).t.sp).toNat = wat z (plF six n p u dst).pt := by
    have := seg_wat n (z.drop p) (i := poD dst) (by omega)
    have e3 := wat_drop z (p := p) (i := p + n.head + poD dst) (by omega)
    rw [show p + n.head + poD dst - p = n.head + poD dst by omega] at e3
    show _ = wat z (p + n.head + poD dst)
    rw [← e3, ← this, ← h.r, h.f.read]
    cases dst
    · show (((wat (segN (z.drop p) n) 0 : Nat) : Int)).toNat = _
      rw [Int.toNat_natCast]
      rfl
    · show (((wat (segN (z.drop p) n) 2 : Nat) : Int)).toNat = _
      rw [Int.toNat_natCast]
      rfl
  rw [h.nat, e1, e2]
  refine rewL_same (by rw [h.l]; exact hk) ?_ ht.c
  intro hh
  cases six
  · exact ht.h rfl
  · exact absurd hh (Nat.lt_irrefl 0)
end
end Go.Proofs.Ytkmcopenflakkaa
