/-
  Plain mathematics: what is laid is read as it was; with bytes behind it is of no form; cut off it ends too early.
-/
import Derived.Test.YtgcdjbhfphglfaaCMath
namespace Go.Proofs.Ytgcdjbhfphglfaa
open Go.RowKit Go.Lib

theorem okPc_parts {x : It} {p : Pc} (h : okPc x p = true) : mayB x.k x.n = true ∧ isB x.k x.n p.n p.bs.length = true := by
  unfold okPc at h; simpa using h

section
variable {s : RS} {x : It} {p : Pc} {rest : List UInt8}
theorem item_fwd (hok : okPc x p = true) (hn : p.n < 18446744073709551616) (hbl : p.bs.length < 18446744073709551616) (hf : s.fe = 0) (hz : s.xs.drop s.at_ = bytesPc x p ++ rest) :
    itS s x = ⟨s.xs, s.at_ + (bytesPc x p).length, s.fa, s.fe⟩ ∧ itN s x = p.n ∧ itBs s x = p.bs := by
  obtain ⟨k, n, b⟩ := x
  obtain ⟨N, bs⟩ := p
  obtain ⟨hm, hi⟩ := okPc_parts hok
  change mayB k n = true at hm
  change isB k n N bs.length = true at hi
  change N < _ at hn
  change bs.length < _ at hbl
  have hl := RS.left_eq hz
  rw [List.length_append] at hl
  rcases mayB_yes hm with ⟨rfl, h1, h8⟩ | rfl | ⟨rfl, h0⟩ | ⟨rfl, h0⟩
  · obtain ⟨m, rfl⟩ := Int.eq_ofNat_of_zero_le (show 0 ≤ n by omega)
    unfold isB at hi
    rw [if_pos rfl, Int.toNat_natCast] at hi
    obtain ⟨i1, i2⟩ := of_decide_eq_true hi
    have hbs : bs = [] := List.eq_nil_of_length_eq_zero i2
    subst hbs
    have e0 : bytesPc ⟨1, m, b⟩ ⟨N, []⟩ = bytesOf N m b := by show itB 1 m b N [] = _; rw [itB_1, sizeOf8_nat m (by omega)]
    rw [e0] at hz hl ⊢
    rw [bytesOf_length] at hl ⊢
    have e1 : itS s ⟨1, m, b⟩ = s.next m := by show s.num m = _; unfold RS.num; rw [if_pos ⟨h1, h8⟩, Int.toNat_natCast]
    have e2 : itN s ⟨1, m, b⟩ = getOf (s.nextB m) b := by show s.numN m b = _; unfold RS.numN; rw [if_pos ⟨h1, h8⟩, Int.toNat_natCast]
    rw [e1, e2, RS.next_fits hf (by omega), RS.nextB_fits hf (by omega), hz]
    refine ⟨rfl, ?_, rfl⟩
    have : (bytesOf N m b ++ rest).take m = bytesOf N m b := by
      have := List.take_left (l₁ := bytesOf N m b) (l₂ := rest)
      rwa [bytesOf_length] at this
    rw [this, get_put N m b (by omega)]
    exact Nat.mod_eq_of_lt i1
  · unfold isB at hi
    rw [if_neg (by decide), if_pos rfl] at hi
    have hbs : bs = [] := List.eq_nil_of_length_eq_zero (of_decide_eq_true hi)
    subst hbs
    have e0 : bytesPc ⟨2, n, b⟩ ⟨N, []⟩ = uvarint N := rfl
    rw [e0] at hz hl ⊢
    have hg : s.got = ⟨N, (uvarint N).length, 0⟩ := by show vget _ = _; rw [hz, vget_put N hn]
    obtain ⟨l1, l2, l3⟩ := RS.look_0 hf (by rw [hg])
    rw [hg] at l2 l3
    change s.lookK = (uvarint N).length at l3
    refine ⟨?_, l2, rfl⟩
    show s.look.next s.lookK = _
    rw [l1, l3, RS.next_fits hf (by omega)]
  · obtain ⟨m, rfl⟩ := Int.eq_ofNat_of_zero_le h0
    unfold isB at hi
    rw [if_neg (by decide), if_neg (by decide), if_pos rfl] at hi
    obtain ⟨i1, i2⟩ := of_decide_eq_true hi
    subst i2
    have hm2 : bs.length = m := by omega
    have e0 : bytesPc ⟨3, m, b⟩ ⟨0, bs⟩ = bs := rfl
    rw [e0] at hz hl ⊢
    have e1 : itS s ⟨3, m, b⟩ = s.next m := by show s.take m = _; unfold RS.take; rw [if_neg (by omega), Int.toNat_natCast]
    have e3 : itBs s ⟨3, m, b⟩ = s.nextB m := by show s.takeB m = _; unfold RS.takeB; rw [if_neg (by omega), Int.toNat_natCast]
    rw [e1, e3, RS.next_fits hf (by omega), RS.nextB_fits hf (by omega), hz, hm2]
    refine ⟨rfl, rfl, ?_⟩
    rw [← hm2]; exact List.take_left
  · unfold isB at hi
    rw [if_neg (by decide), if_neg (by decide), if_neg (by decide)] at hi
    obtain ⟨i1, i2⟩ := of_decide_eq_true hi
    subst i2
    have e0 : bytesPc ⟨4, n, b⟩ ⟨0, bs⟩ = uvarint bs.length ++ bs := rfl
    rw [e0] at hz hl ⊢
    rw [List.length_append] at hl ⊢
    have hg : s.got = ⟨bs.length, (uvarint bs.length).length, 0⟩ := by show vget _ = _; rw [hz, List.append_assoc, vget_put bs.length hbl]
    have hb0 : s.look.fe = 0 := by rw [(RS.look_0 hf (by rw [hg])).1]; exact hf
    obtain ⟨f1, f2⟩ := RS.text_fits (z := n) hb0 (by rw [hg]; show ¬ (n < 0 ∨ n < (bs.length : Int)); omega) (by rw [hg]; show ¬ s.left < (uvarint bs.length).length + bs.length; omega)
    rw [hg] at f1 f2
    refine ⟨?_, rfl, ?_⟩
    · show s.text n = _
      rw [f1, Nat.add_assoc]
    · show s.textB n = bs
      rw [f2]
      show (s.xs.drop (s.at_ + (uvarint bs.length).length)).take bs.length = bs
      rw [← List.drop_drop, hz, List.append_assoc, List.drop_left, List.take_left]

theorem item_cut (hok : okPc x p = true) (hn : p.n < 18446744073709551616) (hbl : p.bs.length < 18446744073709551616) (hf : s.fe = 0) {j : Nat} (hj : j < (bytesPc x p).length) (hz : s.xs.drop s.at_ = (bytesPc x p).take j) :
    itS s x = ⟨s.xs, s.at_, s.at_, 2⟩ := by
  obtain ⟨k, n, b⟩ := x
  obtain ⟨N, bs⟩ := p
  obtain ⟨hm, hi⟩ := okPc_parts hok
  change mayB k n = true at hm
  change isB k n N bs.length = true at hi
  change N < _ at hn
  change bs.length < _ at hbl
  have hl := RS.left_eq hz
  rw [List.length_take] at hl
  have hlj : s.left = j := by omega
  rcases mayB_yes hm with ⟨rfl, h1, h8⟩ | rfl | ⟨rfl, h0⟩ | ⟨rfl, h0⟩
  · obtain ⟨m, rfl⟩ := Int.eq_ofNat_of_zero_le (show 0 ≤ n by omega)
    have e0 : (bytesPc ⟨1, m, b⟩ ⟨N, bs⟩).length = m := by show (itB 1 m b N bs).length = _; rw [itB_1, sizeOf8_nat m (by omega), bytesOf_length]
    rw [e0] at hj
    have e1 : itS s ⟨1, m, b⟩ = s.next m := by show s.num m = _; unfold RS.num; rw [if_pos ⟨h1, h8⟩, Int.toNat_natCast]
    rw [e1, RS.next_short hf (by omega)]
  · have e0 : bytesPc ⟨2, n, b⟩ ⟨N, bs⟩ = uvarint N := rfl
    rw [e0] at hj hz
    have hg : s.got = ⟨0, 0, 2⟩ := by show vget _ = _; rw [hz, vget_cut N hn j hj]
    obtain ⟨l1, l2, l3⟩ := RS.look_1 hf (by rw [hg]; decide)
    show s.look.next s.lookK = _
    rw [l1, hg, RS.next_yes (show (2 : Nat) ≠ 0 by decide)]
  · obtain ⟨m, rfl⟩ := Int.eq_ofNat_of_zero_le h0
    unfold isB at hi
    rw [if_neg (by decide), if_neg (by decide), if_pos rfl] at hi
    obtain ⟨i1, i2⟩ := of_decide_eq_true hi
    have e0 : bytesPc ⟨3, m, b⟩ ⟨N, bs⟩ = bs := rfl
    rw [e0] at hj
    have e1 : itS s ⟨3, m, b⟩ = s.next m := by show s.take m = _; unfold RS.take; rw [if_neg (by omega), Int.toNat_natCast]
    rw [e1, RS.next_short hf (by omega)]
  · unfold isB at hi
    rw [if_neg (by decide), if_neg (by decide), if_neg (by decide)] at hi
    obtain ⟨i1, i2⟩ := of_decide_eq_true hi
    have e0 : bytesPc ⟨4, n, b⟩ ⟨N, bs⟩ = uvarint bs.length ++ bs := rfl
    rw [e0] at hj hz
    rw [List.length_append] at hj
    show s.text n = _
    by_cases hju : j < (uvarint bs.length).length
    · have hg : s.got = ⟨0, 0, 2⟩ := by
        show vget _ = _
        rw [hz, List.take_append_of_le_length (by omega), vget_cut bs.length hbl j hju]
      have l1 := (RS.look_1 hf (by rw [hg]; decide)).1
      rw [(RS.text_bad (by rw [l1, hg]; show (2 : Nat) ≠ 0; decide) n).1, l1, hg]
    · have hg : s.got = ⟨bs.length, (uvarint bs.length).length, 0⟩ := by
        show vget _ = _
        rw [hz, List.take_append, List.take_of_length_le (by omega), vget_put bs.length hbl]
      have hb0 : s.look.fe = 0 := by rw [(RS.look_0 hf (by rw [hg])).1]; exact hf
      rw [(RS.text_short (z := n) hb0 (by rw [hg]; show ¬ (n < 0 ∨ n < (bs.length : Int)); omega) (by rw [hg]; show s.left < (uvarint bs.length).length + bs.length; omega)).1]
end

theorem layS_some {x : It} {p : Pc} {xs : List It} {ps : List Pc} {ys : List UInt8} (h : layS (x :: xs) (p :: ps) = some ys) : okPc x p = true ∧ ∃ zs, layS xs ps = some zs ∧ ys = bytesPc x p ++ zs := by
  cases ho : okPc x p with
  | false => rw [layS_bad ho] at h; cases h
  | true =>
    rw [layS_ok ho] at h
    cases hz : layS xs ps with
    | none => rw [hz] at h; cases h
    | some zs => rw [hz] at h; cases h; exact ⟨rfl, zs, rfl, rfl⟩

/-- Few pieces lay to few bytes. -/
theorem layS_le : ∀ (xs : List It) (ps : List Pc) (ys : List UInt8), layS xs ps = some ys → (∀ p ∈ ps, p.n < 18446744073709551616 ∧ p.bs.length ≤ 1000) → ys.length ≤ 1010 * xs.length
  | [], [], ys, h, _ => by cases h; simp
  | [], _ :: _, _, h, _ => by cases h
  | _ :: _, [], _, h, _ => by cases h
  | x :: xs, p :: ps, ys, h, hp => by
    obtain ⟨_, zs, h1, rfl⟩ := layS_some h
    have h2 := layS_le xs ps zs h1 (fun q hq => hp q (List.mem_cons_of_mem _ hq))
    have h3 := itB_le x.k x.n x.b p.n (hp p (List.mem_cons_self ..)).1 p.bs (hp p (List.mem_cons_self ..)).2
    have h4 : (bytesPc x p).length ≤ 1010 := h3
    rw [List.length_append, List.length_cons]
    omega

theorem layS_lens : ∀ (xs : List It) (ps : List Pc) (ys : List UInt8), layS xs ps = some ys → ps.length = xs.length
  | [], [], _, _ => rfl
  | [], _ :: _, _, h => by cases h
  | _ :: _, [], _, h => by cases h
  | x :: xs, p :: ps, ys, h => by
    obtain ⟨_, zs, h1, _⟩ := layS_some h
    simp [layS_lens xs ps zs h1]

theorem scan_fwd : ∀ (xs : List It) (ps : List Pc) (ys : List UInt8) (s : RS) (acc : List Pc) (rest : List UInt8), layS xs ps = some ys → (∀ p ∈ ps, p.n < 18446744073709551616 ∧ p.bs.length ≤ 1000) → s.fe = 0 → s.xs.drop s.at_ = ys ++ rest →
    scanGo s xs acc = if 0 < rest.length then .bad (s.at_ + ys.length) 3 else .ok (acc ++ ps)
  | [], [], ys, s, acc, rest, h, _, _, hz => by
    cases h
    unfold scanGo
    have hl := RS.left_eq hz
    rw [List.nil_append] at hl
    rw [hl]
    simp
  | [], _ :: _, _, _, _, _, h, _, _, _ => by cases h
  | _ :: _, [], _, _, _, _, h, _, _, _ => by cases h
  | x :: xs, p :: ps, ys, s, acc, rest, h, hp, hf, hz => by
    obtain ⟨ho, zs, h1, rfl⟩ := layS_some h
    have hpp := hp p (List.mem_cons_self ..)
    rw [List.append_assoc] at hz
    obtain ⟨e1, e2, e3⟩ := item_fwd ho hpp.1 (by omega) hf hz
    unfold scanGo
    rw [if_pos (okPc_parts ho).1, e1, e2, e3, if_pos hf]
    have hz2 : (⟨s.xs, s.at_ + (bytesPc x p).length, s.fa, s.fe⟩ : RS).xs.drop (⟨s.xs, s.at_ + (bytesPc x p).length, s.fa, s.fe⟩ : RS).at_ = zs ++ rest := by
      show s.xs.drop (s.at_ + (bytesPc x p).length) = _
      rw [← List.drop_drop, hz, List.drop_left]
    rw [scan_fwd xs ps zs ⟨s.xs, s.at_ + (bytesPc x p).length, s.fa, s.fe⟩ _ rest h1 (fun q hq => hp q (List.mem_cons_of_mem _ hq)) hf hz2]
    simp [Nat.add_assoc]

theorem scan_cut : ∀ (xs : List It) (ps : List Pc) (ys : List UInt8) (s : RS) (acc : List Pc) (j : Nat), layS xs ps = some ys → (∀ p ∈ ps, p.n < 18446744073709551616 ∧ p.bs.length ≤ 1000) → s.fe = 0 → j < ys.length → s.xs.drop s.at_ = ys.take j →
    ∃ a, scanGo s xs acc = .bad a 2 ∧ a ≤ s.at_ + j
  | [], [], ys, s, acc, j, h, _, _, hj, _ => by cases h; simp at hj
  | [], _ :: _, _, _, _, _, h, _, _, _, _ => by cases h
  | _ :: _, [], _, _, _, _, h, _, _, _, _ => by cases h
  | x :: xs, p :: ps, ys, s, acc, j, h, hp, hf, hj, hz => by
    obtain ⟨ho, zs, h1, rfl⟩ := layS_some h
    have hpp := hp p (List.mem_cons_self ..)
    unfold scanGo
    rw [if_pos (okPc_parts ho).1]
    by_cases hc : j < (bytesPc x p).length
    · rw [List.take_append_of_le_length (by omega)] at hz
      have e1 := item_cut ho hpp.1 (by omega) hf hc hz
      rw [e1, if_neg (show ¬ (2 : Nat) = 0 by decide)]
      exact ⟨s.at_, rfl, by omega⟩
    · rw [List.take_append, List.take_of_length_le (by omega)] at hz
      obtain ⟨e1, e2, e3⟩ := item_fwd ho hpp.1 (by omega) hf hz
      rw [e1, if_pos hf]
      rw [List.length_append] at hj
      have hz2 : (⟨s.xs, s.at_ + (bytesPc x p).length, s.fa, s.fe⟩ : RS).xs.drop (⟨s.xs, s.at_ + (bytesPc x p).length, s.fa, s.fe⟩ : RS).at_ = zs.take (j - (bytesPc x p).length) := by
        show s.xs.drop (s.at_ + (bytesPc x p).length) = _
        rw [← List.drop_drop, hz, List.drop_left]
      obtain ⟨a, h2, h3⟩ := scan_cut xs ps zs ⟨s.xs, s.at_ + (bytesPc x p).length, s.fa, s.fe⟩ (acc ++ [⟨itN s x, itBs s x⟩]) (j - (bytesPc x p).length) h1 (fun q hq => hp q (List.mem_cons_of_mem _ hq)) hf (by omega) hz2
      refine ⟨a, h2, ?_⟩
      change a ≤ s.at_ + (bytesPc x p).length + (j - (bytesPc x p).length) at h3
      omega
end Go.Proofs.Ytgcdjbhfphglfaa
