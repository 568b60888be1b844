/-
  Plain mathematics: what is read by a plan is laid to the same bytes; what is laid is read as it was, cut off it ends too early.
-/
import Derived.Test.YtgcdjbhfphglfaaCScan
namespace Go.Proofs.Ytgcdjbhfphglfaa
open Go.RowKit Go.Lib

theorem sizeOf8_nat (k : Nat) (h : k ≤ 8) : sizeOf8 (k : Int) = k := by
  unfold sizeOf8
  rw [if_neg (by omega), if_neg (by omega)]
  simp
theorem get_put (n k : Nat) (big : Bool) (h : k ≤ 8) : getOf (bytesOf n k big) big = n % 256 ^ k := by
  unfold getOf
  rw [List.take_of_length_le (by rw [bytesOf_length]; exact h)]
  cases big <;> simp [bytesOf, num_dig]
theorem put_get (xs : List UInt8) (big : Bool) (h : xs.length ≤ 8) : bytesOf (getOf xs big) xs.length big = xs := by
  unfold getOf
  rw [List.take_of_length_le h]
  cases big
  · simp [bytesOf, dig_num]
  · have := dig_num xs.reverse
    rw [List.reverse_reverse, List.length_reverse] at this
    simp [bytesOf, this]
theorem get_lt (xs : List UInt8) (big : Bool) (h : xs.length ≤ 8) : getOf xs big < 256 ^ xs.length := by
  unfold getOf
  rw [List.take_of_length_le h]
  cases big
  · have := num_lt xs.reverse; simpa using this
  · exact num_lt xs

theorem RS.left_eq {s : RS} {Z : List UInt8} (h : s.xs.drop s.at_ = Z) : s.left = Z.length := by rw [← h, List.length_drop]; rfl

theorem itB_1 (n : Int) (b : Bool) (N : Nat) (bs : List UInt8) : itB 1 n b N bs = bytesOf N (sizeOf8 n) b := rfl
theorem itB_2 (n : Int) (b : Bool) (N : Nat) (bs : List UInt8) : itB 2 n b N bs = uvarint N := rfl
theorem itB_3 (n : Int) (b : Bool) (N : Nat) (bs : List UInt8) : itB 3 n b N bs = bs := rfl
theorem itB_4 (n : Int) (b : Bool) (N : Nat) (bs : List UInt8) : itB 4 n b N bs = uvarint bs.length ++ bs := rfl

/-- What is read is a piece of its item, and the bytes that it takes are those of the piece. -/
theorem item_back {s : RS} {x : It} (hm : mayB x.k x.n = true) (hf : s.fe = 0) (hat : s.at_ ≤ s.xs.length) (ht : (itS s x).fe = 0) :
    okPc x ⟨itN s x, itBs s x⟩ = true ∧ (itS s x).xs = s.xs ∧ (itS s x).at_ ≤ s.xs.length ∧ s.xs.drop s.at_ = bytesPc x ⟨itN s x, itBs s x⟩ ++ s.xs.drop (itS s x).at_ ∧ itN s x < 18446744073709551616 ∧ (itBs s x).length ≤ s.xs.length := by
  obtain ⟨k, n, b⟩ := x
  change mayB k n = true at hm
  unfold okPc bytesPc
  rw [show (⟨k, n, b⟩ : It).k = k from rfl, show (⟨k, n, b⟩ : It).n = n from rfl, show (⟨k, n, b⟩ : It).b = b from rfl, hm, Bool.true_and]
  have split : ∀ m, s.at_ + m ≤ s.xs.length → s.xs.drop s.at_ = (s.xs.drop s.at_).take m ++ s.xs.drop (s.at_ + m) := fun m _ => by
    rw [← List.drop_drop]; exact (List.take_append_drop m _).symm
  rcases mayB_yes hm with ⟨rfl, h1, h8⟩ | rfl | ⟨rfl, h0⟩ | ⟨rfl, h0⟩
  · obtain ⟨m, rfl⟩ := Int.eq_ofNat_of_zero_le (show 0 ≤ n by omega)
    have e1 : itS s ⟨1, m, b⟩ = s.next m := by show s.num m = _; unfold RS.num; rw [if_pos ⟨h1, h8⟩, Int.toNat_natCast]
    have e2 : itN s ⟨1, m, b⟩ = getOf (s.nextB m) b := by show s.numN m b = _; unfold RS.numN; rw [if_pos ⟨h1, h8⟩, Int.toNat_natCast]
    have e3 : itBs s ⟨1, m, b⟩ = [] := rfl
    have hl : m ≤ s.left := by
      rcases Nat.lt_or_ge s.left m with h | h
      · rw [e1, RS.next_short hf h] at ht; cases ht
      · exact h
    have hadd : s.at_ + m ≤ s.xs.length := by unfold RS.left at hl; omega
    rw [e1, e2, e3, RS.next_fits hf hl, RS.nextB_fits hf hl]
    have hlen : ((s.xs.drop s.at_).take m).length = m := by rw [List.length_take, List.length_drop]; omega
    have hlt := get_lt ((s.xs.drop s.at_).take m) b (by omega)
    have hpg := put_get ((s.xs.drop s.at_).take m) b (by omega)
    rw [hlen] at hlt hpg
    refine ⟨?_, rfl, hadd, ?_, Nat.lt_of_lt_of_le hlt (pow256_le (by omega)), Nat.zero_le _⟩
    · unfold isB
      rw [if_pos rfl, Int.toNat_natCast]
      exact decide_eq_true ⟨hlt, rfl⟩
    · show _ = itB 1 m b _ [] ++ _
      rw [itB_1, sizeOf8_nat m (by omega), hpg]
      exact split m hadd
  · have hge : s.got.e = 0 := by
      by_cases h : s.got.e = 0
      · exact h
      · have e : (itS s ⟨2, n, b⟩).fe = s.got.e := by
          show (s.look.next s.lookK).fe = _
          rw [(RS.look_1 hf h).1, RS.next_yes h]
        rw [e] at ht; exact absurd ht h
    obtain ⟨l1, l2, l3⟩ := RS.look_0 hf hge
    rcases vget_tells (s.xs.drop s.at_) with ⟨q, hg, htk, hq⟩ | hg | hg
    · have hgot : s.got = ⟨q, (uvarint q).length, 0⟩ := hg
      rw [hgot] at l2 l3
      have hk : (uvarint q).length ≤ s.left := by
        have := congrArg List.length htk
        rw [List.length_take, List.length_drop] at this
        unfold RS.left; omega
      have hadd : s.at_ + (uvarint q).length ≤ s.xs.length := by unfold RS.left at hk; omega
      have e1 : itS s ⟨2, n, b⟩ = ⟨s.xs, s.at_ + (uvarint q).length, s.fa, s.fe⟩ := by
        show s.look.next s.lookK = _
        rw [l1, l3, RS.next_fits hf hk]
      have e2 : itN s ⟨2, n, b⟩ = q := l2
      have e3 : itBs s ⟨2, n, b⟩ = [] := rfl
      rw [e1, e2, e3]
      refine ⟨?_, rfl, hadd, ?_, hq, Nat.zero_le _⟩
      · unfold isB; rw [if_neg (by decide), if_pos rfl]; rfl
      · show _ = itB 2 n b q [] ++ s.xs.drop (s.at_ + (uvarint q).length)
        have h9 := split (uvarint q).length hadd
        rw [htk] at h9
        rw [itB_2]
        exact h9
    · have : s.got.e = 2 := by show (vget _).e = 2; rw [hg]
      rw [this] at hge; cases hge
    · have : s.got.e = 3 := by show (vget _).e = 3; rw [hg]
      rw [this] at hge; cases hge
  · obtain ⟨m, rfl⟩ := Int.eq_ofNat_of_zero_le h0
    have e1 : itS s ⟨3, m, b⟩ = s.next m := by show s.take m = _; unfold RS.take; rw [if_neg (by omega), Int.toNat_natCast]
    have e3 : itBs s ⟨3, m, b⟩ = s.nextB m := by show s.takeB m = _; unfold RS.takeB; rw [if_neg (by omega), Int.toNat_natCast]
    have e2 : itN s ⟨3, m, b⟩ = 0 := rfl
    have hl : m ≤ s.left := by
      rcases Nat.lt_or_ge s.left m with h | h
      · rw [e1, RS.next_short hf h] at ht; cases ht
      · exact h
    have hadd : s.at_ + m ≤ s.xs.length := by unfold RS.left at hl; omega
    rw [e1, e2, e3, RS.next_fits hf hl, RS.nextB_fits hf hl]
    have hlen : ((s.xs.drop s.at_).take m).length = m := by rw [List.length_take, List.length_drop]; omega
    refine ⟨?_, rfl, hadd, split m hadd, by omega, by show ((s.xs.drop s.at_).take m).length ≤ _; omega⟩
    unfold isB
    rw [if_neg (by decide), if_neg (by decide), if_pos rfl]
    exact decide_eq_true ⟨by show ((((s.xs.drop s.at_).take m).length : Nat) : Int) = m; rw [hlen], rfl⟩
  · have e1 : itS s ⟨4, n, b⟩ = s.text n := rfl
    have e2 : itN s ⟨4, n, b⟩ = 0 := rfl
    have e3 : itBs s ⟨4, n, b⟩ = s.textB n := rfl
    rw [e1] at ht
    have hb : s.look.fe = 0 := by
      by_cases h : s.look.fe = 0
      · exact h
      · rw [(RS.text_bad h n).1] at ht; exact absurd ht h
    have hge := (RS.look_fe hb).2
    have hz : ¬ (n < 0 ∨ n < s.got.n) := fun h => by rw [(RS.text_long hb h).1] at ht; cases ht
    have hs : ¬ s.left < s.got.k + s.got.n := fun h => by rw [(RS.text_short hb hz h).1] at ht; cases ht
    obtain ⟨f1, f2⟩ := RS.text_fits hb hz hs
    rcases vget_tells (s.xs.drop s.at_) with ⟨q, hg, htk, hq⟩ | hg | hg
    · have hgot : s.got = ⟨q, (uvarint q).length, 0⟩ := hg
      rw [hgot] at f1 f2 hz hs
      change ¬ s.left < (uvarint q).length + q at hs
      have hadd : s.at_ + (uvarint q).length + q ≤ s.xs.length := by unfold RS.left at hs; omega
      have hlen : ((s.xs.drop (s.at_ + (uvarint q).length)).take q).length = q := by rw [List.length_take, List.length_drop]; omega
      rw [e1, e2, e3, f1, f2]
      refine ⟨?_, rfl, hadd, ?_, by omega, by show ((s.xs.drop (s.at_ + (uvarint q).length)).take q).length ≤ _; omega⟩
      · unfold isB
        rw [if_neg (by decide), if_neg (by decide), if_neg (by decide)]
        exact decide_eq_true ⟨by show ((((s.xs.drop (s.at_ + (uvarint q).length)).take q).length : Nat) : Int) ≤ n; rw [hlen]; change ¬ (n < 0 ∨ n < (q : Int)) at hz; omega, rfl⟩
      · show _ = itB 4 n b 0 ((s.xs.drop (s.at_ + (uvarint q).length)).take q) ++ s.xs.drop (s.at_ + (uvarint q).length + q)
        rw [itB_4, hlen, List.append_assoc, ← List.drop_drop (i := q), List.take_append_drop]
        conv => lhs; rw [split (uvarint q).length (by omega), htk]
    · have : s.got.e = 2 := by show (vget _).e = 2; rw [hg]
      rw [this] at hge; cases hge
    · have : s.got.e = 3 := by show (vget _).e = 3; rw [hg]
      rw [this] at hge; cases hge

/-- A scan without a fault: the pieces lay to what was left. -/
theorem scan_back : ∀ (xs : List It) (s : RS) (acc ps : List Pc), s.fe = 0 → s.at_ ≤ s.xs.length → scanGo s xs acc = .ok ps →
    ∃ qs, ps = acc ++ qs ∧ layS xs qs = some (s.xs.drop s.at_) ∧ qs.length = xs.length ∧ ∀ p ∈ qs, p.n < 18446744073709551616 ∧ p.bs.length ≤ s.xs.length
  | [], s, acc, ps, hf, hat, h => by
    unfold scanGo at h
    by_cases hl : 0 < s.left
    · rw [if_pos hl] at h; cases h
    · rw [if_neg hl] at h
      cases h
      refine ⟨[], by simp, ?_, rfl, by simp⟩
      rw [List.drop_of_length_le (by unfold RS.left at hl; omega)]
      rfl
  | x :: xs, s, acc, ps, hf, hat, h => by
    unfold scanGo at h
    by_cases hm : mayB x.k x.n = true
    · rw [if_pos hm] at h
      by_cases ht : (itS s x).fe = 0
      · rw [if_pos ht] at h
        obtain ⟨h1, h2, h3, h4, h5, h6⟩ := item_back hm hf hat ht
        obtain ⟨qs, e1, e2, e3, e4⟩ := scan_back xs (itS s x) _ ps ht (by rw [h2]; exact h3) h
        refine ⟨⟨itN s x, itBs s x⟩ :: qs, by rw [e1]; simp, ?_, by simp [e3], ?_⟩
        · rw [layS_ok h1, e2, h2, h4]; rfl
        · intro p hp
          rcases List.mem_cons.1 hp with rfl | hp
          · exact ⟨h5, h6⟩
          · have := e4 p hp; rw [h2] at this; exact this
      · rw [if_neg ht] at h; cases h
    · rw [if_neg hm] at h; cases h
theorem scan_bad : ∀ (xs : List It) (s : RS) (acc : List Pc) (a e0 : Nat), scanGo s xs acc = .bad a e0 → e0 ≠ 0
  | [], s, acc, a, e0, h => by
    unfold scanGo at h
    by_cases hl : 0 < s.left
    · rw [if_pos hl] at h; cases h; decide
    · rw [if_neg hl] at h; cases h
  | x :: xs, s, acc, a, e0, h => by
    unfold scanGo at h
    by_cases hm : mayB x.k x.n = true
    · rw [if_pos hm] at h
      by_cases ht : (itS s x).fe = 0
      · rw [if_pos ht] at h
        exact scan_bad xs (itS s x) _ a e0 h
      · rw [if_neg ht] at h; cases h; exact ht
    · rw [if_neg hm] at h; cases h; decide
end Go.Proofs.Ytgcdjbhfphglfaa
