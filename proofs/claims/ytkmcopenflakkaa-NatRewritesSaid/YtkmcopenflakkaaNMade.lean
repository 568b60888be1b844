/-
  Plain mathematics of stage 12: a frame that was made, rewritten, is the one that is made for the other tuple. No program is walked here.
-/
import Derived.Test.YtkmcopenflakkaaNBack
namespace Go.Proofs.Ytkmcopenflakkaa
open Go.RowKit Go.Lib

theorem setL_whole {xs ys : List UInt8} (h : ys.length = xs.length) : setL xs 0 ys = ys := by
  rw [setL_eq (by omega), Nat.zero_add, h, List.drop_length, List.append_nil]
  rfl
theorem setL_mid {a b c ys : List UInt8} {k : Nat} (hk : a.length = k) (h : ys.length = b.length) : setL (a ++ (b ++ c)) k ys = a ++ (ys ++ c) := by
  have e := setL_app2 (xs := a) (zs := b ++ c) (k := 0) (ys := ys)
  rw [Nat.add_zero, hk] at e
  rw [e, setL_app1 (by omega), setL_whole h]
theorem ck_mod {xs : List UInt8} (h : 0 < wsum false xs) : (ckOf xs + wsum false xs) % 65535 = 0 ∧ ckOf xs < 65535 := by
  have h1 := nrm_le (wsum false xs)
  have h2 := nrm_mod (wsum false xs)
  have h3 : nrm (wsum false xs) ≠ 0 := fun e => by have := nrm_eq_zero.1 e; omega
  have e : ckOf xs = 65535 - nrm (wsum false xs) := rfl
  rw [e]
  omega
section
variable {O T I W L P : Nat}
theorem hdr_posN (O T I W L P c : Nat) (s d : List UInt8) : 0 < wsum false (hdr O T I W L P c s d) := wsum_first (by show (69 : UInt8).toNat ≠ 0; decide)
theorem hdr_split (c : Nat) (s d : List UInt8) : hdr O T I W L P c s d = [69, UInt8.ofNat O, UInt8.ofNat (T / 256), UInt8.ofNat (T % 256), UInt8.ofNat (I / 256), UInt8.ofNat (I % 256), UInt8.ofNat (W / 256), UInt8.ofNat (W % 256), UInt8.ofNat L, UInt8.ofNat P] ++ (be2 c ++ (s ++ d)) := rfl
theorem hdr_ck (c c' : Nat) (s d : List UInt8) : setL (hdr O T I W L P c s d) 10 (be2 c') = hdr O T I W L P c' s d := by
  rw [hdr_split, hdr_split, setL_mid (k := 10) (b := be2 c) (ys := be2 c') rfl rfl]
theorem hdr_src (c : Nat) {s d s' : List UInt8} (h : s'.length = s.length) : setL (hdr O T I W L P c s d) 12 s' = hdr O T I W L P c s' d := by
  rw [hdr_split, hdr_split, ← List.append_assoc, setL_mid (k := 12) rfl h, List.append_assoc]
theorem hdr_dst (c : Nat) {s d d' : List UInt8} (hs : s.length = 4) (h : d'.length = d.length) : setL (hdr O T I W L P c s d) 16 d' = hdr O T I W L P c s d' := by
  rw [hdr_split, hdr_split, ← List.append_assoc, ← List.append_assoc]
  have := setL_mid (a := ([69, UInt8.ofNat O, UInt8.ofNat (T / 256), UInt8.ofNat (T % 256), UInt8.ofNat (I / 256), UInt8.ofNat (I % 256), UInt8.ofNat (W / 256), UInt8.ofNat (W % 256), UInt8.ofNat L, UInt8.ofNat P] ++ be2 c) ++ s) (b := d) (c := []) (ys := d') (k := 16) (by rw [List.length_append, hs]; rfl) h
  rw [List.append_nil, List.append_nil] at this
  rw [this, List.append_assoc, List.append_assoc]
theorem hdr_wat {c : Nat} (hc : c < 65536) (s d rest : List UInt8) : wat (hdr O T I W L P c s d ++ rest) 10 = c := by
  show 256 * (UInt8.ofNat (c / 256)).toNat + (UInt8.ofNat (c % 256)).toNat = c
  rw [u8nat (by omega), u8nat (by omega)]
  omega
theorem hdr_wsum (s d : List UInt8) (hs : s.length = 4) : wsum false (hdr O T I W L P 0 s d) = wsum false (hdr O T I W L P 0 [] []) + wsum false s + wsum false d := by
  have e : ∀ s d : List UInt8, hdr O T I W L P 0 s d = hdr O T I W L P 0 [] [] ++ (s ++ d) := fun s d => rfl
  rw [e s d, wsum_front (by simp [hdr]), wsum_front (by omega)]
  omega
end
theorem hdr_src_9 {N P H : Nat} {s d s' : List UInt8} (h : s'.length = s.length) : setL (hdr_9 N P H s d) 8 s' = hdr_9 N P H s' d := by
  have e : ∀ s d : List UInt8, hdr_9 N P H s d = [96, 0, 0, 0, UInt8.ofNat (N / 256), UInt8.ofNat (N % 256), UInt8.ofNat P, UInt8.ofNat H] ++ (s ++ d) := fun s d => rfl
  rw [e, e, setL_mid (k := 8) rfl h]
theorem hdr_dst_9 {N P H : Nat} {s d d' : List UInt8} (hs : s.length = 16) (h : d'.length = d.length) : setL (hdr_9 N P H s d) 24 d' = hdr_9 N P H s d' := by
  have e : ∀ s d : List UInt8, hdr_9 N P H s d = ([96, 0, 0, 0, UInt8.ofNat (N / 256), UInt8.ofNat (N % 256), UInt8.ofNat P, UInt8.ofNat H] ++ s) ++ (d ++ []) := fun s d => by rw [List.append_nil, List.append_assoc]; rfl
  rw [e, e, setL_mid (k := 24) (by rw [List.length_append, hs]; rfl) h]
/-- The segment ahead of its checksum, with another port. -/
theorem segK_port (t : Tu) (f : Int) (load : List UInt8) (a : Ad) (m : Int) (dst : Bool) : setL (segK t f load) (poD dst) (be2 m.toNat) = segK (tuN t a m dst) f load := by
  cases dst
  · exact setL_mid (a := []) (b := be2 t.sp.toNat) (ys := be2 m.toNat) (k := 0) rfl rfl
  · exact setL_mid (a := be2 t.sp.toNat) (b := be2 t.dp.toNat) (ys := be2 m.toNat) (k := 2) rfl rfl
theorem tuN_pr (t : Tu) (a : Ad) (m : Int) (dst : Bool) : (tuN t a m dst).pr = t.pr := by cases dst <;> rfl
theorem tuN_udp (t : Tu) (a : Ad) (m : Int) (dst : Bool) : udpT (tuN t a m dst) = udpT t := by unfold udpT; rw [tuN_pr]
/-- A number that makes a segment's checksum right is the one that is filled in. -/
theorem fill_uniq {six u : Bool} {a b sg : List UInt8} (ha : a.length = 16) (hb : b.length = 16) (hf : faultB u sg = 0) {S : Nat} (hS : InR u S) (hr : ckS six a b u (setL sg (plc u) (be2 S)) = 0) : setL sg (plc u) (be2 S) = fillS six a b u sg := by
  have h0 : ck0 six a b u sg ≤ 65535 := ckS_le _ _ _ _ _
  have hpos : ∀ k, 0 < wsum false (segP six a b u (put2_10 sg (plc u) k)) := fun k => pseudo_pos _ _ _ _ _ (prN_pos u) (prN_lt u) _ _
  have hN : numS u (ck0 six a b u sg) ≤ 65535 := numS_le h0
  have hlt : ck0 six a b u sg < 65535 := (ck_mod (hpos 0)).2
  have hI : InR u (numS u (ck0 six a b u sg)) := by
    refine ⟨hN, fun hu => ?_, fun hu => ?_⟩
    · unfold numS
      split
      · omega
      · rename_i hh
        have : ck0 six a b u sg ≠ 0 := fun e => hh ⟨hu, e⟩
        omega
    · unfold numS
      rw [if_neg (by rw [hu]; simp)]
      exact hlt
  have h1 := fill_ck (six := six) ha hb hf
  unfold fillS at h1
  rw [← put2_setL] at hr
  have hSl := hS.1
  have e1 := seg_sum (six := six) ha hb hf (n := S) (by omega)
  have e2 := seg_sum (six := six) ha hb hf (n := numS u (ck0 six a b u sg)) (by omega)
  have p1 := hpos S
  have p2 := hpos (numS u (ck0 six a b u sg))
  have m1 := (ck_right_iff p1).1 hr
  have m2 := (ck_right_iff p2).1 h1
  have := inR_uniq hS hI (by omega)
  rw [this, ← put2_setL]
  rfl
theorem rewL_head6 {q : Pl} {r new : List UInt8} {m i : Nat} (h0 : q.hd = 0) (h2 : i ≤ q.pt) (h3 : i ≤ q.ck) : (rewL q r new m).take i = setL (r.take i) q.ad new := by
  unfold rewL headL
  rw [if_neg (by omega), setL_take_le h2, setL_take, setL_take_le h3]
set_option maxHeartbeats 1000000 in
/-- The header of a frame that is made, with another address. -/
theorem headK_turn {t : Tu} (ho : t.Ok) {a : Ad} (ha : a.b.length = 16) (haf : ofB t.s.six a = true) (m : Int) (dst : Bool) (N : Nat) (q : Pl) (rest : List UInt8) (mm : Nat)
    (q1 : q.hd = if t.s.six = true then 0 else 10) (q2 : q.ad = (if t.s.six = true then 8 else 12) + (if dst = true then szA t.s.six else 0)) (q3 : ihN t ≤ q.pt) (q4 : ihN t ≤ q.ck) :
    (rewL q (headK t N ++ rest) (newB t.s.six a) mm).take (ihN t) = headK (tuN t a m dst) N := by
  have hso := ho.s
  have hdo := ho.d
  have hh : (headK t N).length = ihN t := headK_len ho N
  have hsix' : (tuN t a m dst).s.six = t.s.six := by
    cases dst
    · exact of_six haf
    · rfl
  have ht : (headK t N ++ rest).take (ihN t) = headK t N := by rw [← hh, List.take_append_of_le_length (Nat.le_refl _), List.take_length]
  have hnl := newB_len ha t.s.six
  cases hs : t.s.six
  · rw [hs] at q1 q2 hsix' haf hnl
    rw [if_neg (by decide)] at q1 q2
    have e1 : headK t N = hdr 0 (20 + N) 0 16384 64 t.pr.toNat (ckOf (hdr 0 (20 + N) 0 16384 64 t.pr.toNat 0 (t.s.b.take 4) (t.d.b.take 4))) (t.s.b.take 4) (t.d.b.take 4) := by
      unfold headK
      rw [if_neg (by rw [hs]; decide)]
      rfl
    have e2 : headK (tuN t a m dst) N = hdr 0 (20 + N) 0 16384 64 t.pr.toNat (ckOf (hdr 0 (20 + N) 0 16384 64 t.pr.toNat 0 ((tuN t a m dst).s.b.take 4) ((tuN t a m dst).d.b.take 4))) ((tuN t a m dst).s.b.take 4) ((tuN t a m dst).d.b.take 4) := by
      unfold headK
      rw [if_neg (by rw [hsix']; decide)]
      show hdr 0 (20 + N) 0 16384 64 (tuN t a m dst).pr.toNat _ _ _ = _
      rw [tuN_pr]
      show hdr 0 (20 + N) 0 16384 64 t.pr.toNat (ckOf (hdr 0 (20 + N) 0 16384 64 (tuN t a m dst).pr.toNat 0 _ _)) _ _ = _
      rw [tuN_pr]
      rfl
    have hi : ihN t = 20 := by unfold ihN; rw [hs]; rfl
    rw [hi] at q3 q4 hh ht ⊢
    rw [rewL_head (by omega) q3 q4, ht]
    have s4 : (t.s.b.take 4).length = 4 := take4 ho.s
    have d4 : (t.d.b.take 4).length = 4 := take4 ho.d
    have a4 : (newB false a).length = 4 := hnl
    have hoc := ck_mod (hdr_posN 0 (20 + N) 0 16384 64 t.pr.toNat 0 (t.s.b.take 4) (t.d.b.take 4))
    have ew : wat (headK t N ++ rest) q.hd = ckOf (hdr 0 (20 + N) 0 16384 64 t.pr.toNat 0 (t.s.b.take 4) (t.d.b.take 4)) := by
      rw [q1, e1]
      exact hdr_wat (by omega) _ _ _
    have hold : ((headK t N ++ rest).drop q.ad).take (newB false a).length = (oldA t dst).b.take 4 := by
      rw [a4, q2, e1]
      cases dst
      · show ((hdr _ _ _ _ _ _ _ (t.s.b.take 4) (t.d.b.take 4) ++ rest).drop 12).take 4 = t.s.b.take 4
        rw [hdr_drop, List.take_append_of_le_length (by omega), List.take_of_length_le (by omega)]
      · show ((hdr _ _ _ _ _ _ _ (t.s.b.take 4) (t.d.b.take 4) ++ rest).drop (12 + 4)).take 4 = t.d.b.take 4
        rw [← List.drop_drop, hdr_drop, List.drop_append_of_le_length (by omega), List.drop_of_length_le (by omega), List.nil_append, List.take_append_of_le_length (by omega), List.take_of_length_le (by omega)]
    rw [ew, hold]
    have hol : (newB false a).length = ((oldA t dst).b.take 4).length := by
      rw [a4]
      unfold oldA
      split
      · exact d4.symm
      · exact s4.symm
    have l1 := ch_lt (old := (oldA t dst).b.take 4) (new := newB false a) hol hoc.2
    have m1 := ch_mod (old := (oldA t dst).b.take 4) (new := newB false a) hol (Nat.le_of_lt hoc.2)
    have hk := hdr_wsum (O := 0) (T := 20 + N) (I := 0) (W := 16384) (L := 64) (P := t.pr.toNat) (t.s.b.take 4) (t.d.b.take 4) s4
    rw [q1, e1, hdr_ck, e2]
    cases dst
    · have q2' : q.ad = 12 := q2
      rw [q2', hdr_src _ (by rw [a4, s4])]
      have hnc := ck_mod (hdr_posN 0 (20 + N) 0 16384 64 t.pr.toNat 0 (newB false a) (t.d.b.take 4))
      have hk2 := hdr_wsum (O := 0) (T := 20 + N) (I := 0) (W := 16384) (L := 64) (P := t.pr.toNat) (newB false a) (t.d.b.take 4) a4
      have e5 : oldA t false = t.s := rfl
      rw [e5] at m1 l1 ⊢
      have ee : changedOf (ckOf (hdr 0 (20 + N) 0 16384 64 t.pr.toNat 0 (t.s.b.take 4) (t.d.b.take 4))) (t.s.b.take 4) (newB false a) = ckOf (hdr 0 (20 + N) 0 16384 64 t.pr.toNat 0 (newB false a) (t.d.b.take 4)) := by omega
      have eS : (tuN t a m false).s.b.take 4 = newB false a := rfl
      have eD : (tuN t a m false).d.b.take 4 = t.d.b.take 4 := rfl
      rw [ee, eS, eD]
    · have q2' : q.ad = 16 := q2
      rw [q2', hdr_dst _ s4 (by rw [a4, d4])]
      have hnc := ck_mod (hdr_posN 0 (20 + N) 0 16384 64 t.pr.toNat 0 (t.s.b.take 4) (newB false a))
      have hk2 := hdr_wsum (O := 0) (T := 20 + N) (I := 0) (W := 16384) (L := 64) (P := t.pr.toNat) (t.s.b.take 4) (newB false a) s4
      have e5 : oldA t true = t.d := rfl
      rw [e5] at m1 l1 ⊢
      have ee : changedOf (ckOf (hdr 0 (20 + N) 0 16384 64 t.pr.toNat 0 (t.s.b.take 4) (t.d.b.take 4))) (t.d.b.take 4) (newB false a) = ckOf (hdr 0 (20 + N) 0 16384 64 t.pr.toNat 0 (t.s.b.take 4) (newB false a)) := by omega
      have eS : (tuN t a m true).s.b.take 4 = t.s.b.take 4 := rfl
      have eD : (tuN t a m true).d.b.take 4 = newB false a := rfl
      rw [ee, eS, eD]
  · rw [hs] at q1 q2 hsix' haf hnl
    rw [if_pos rfl] at q1 q2
    have e1 : headK t N = hdr_9 (((40 + N : Nat) : Int) - 40).toNat t.pr.toNat 64 t.s.b t.d.b := by
      unfold headK
      rw [if_pos hs]
      rfl
    have e2 : headK (tuN t a m dst) N = hdr_9 (((40 + N : Nat) : Int) - 40).toNat t.pr.toNat 64 (tuN t a m dst).s.b (tuN t a m dst).d.b := by
      unfold headK
      rw [if_pos hsix']
      show hdr_9 _ (tuN t a m dst).pr.toNat _ _ _ = _
      rw [tuN_pr]
      rfl
    have a16 : (newB true a).length = 16 := hnl
    have ea : newB true a = a.b := by unfold newB; rw [List.take_of_length_le (by show a.b.length ≤ 16; omega)]
    rw [rewL_head6 q1 q3 q4, ht, e1, e2, ea]
    cases dst
    · have q2' : q.ad = 8 := q2
      rw [q2', hdr_src_9 (by rw [ha, hso])]
      rfl
    · have q2' : q.ad = 24 := q2
      rw [q2', hdr_dst_9 hso (by rw [ha, hdo])]
      rfl
theorem typed_turn (L : Lk) {t : Tu} {a : Ad} (haf : ofB t.s.six a = true) (m : Int) (dst : Bool) : typedL L (tuN t a m dst) = typedL L t := by
  unfold typedL tyOf
  cases dst
  · rw [show (tuN t a m false).s.six = t.s.six from of_six haf]
  · rfl
set_option maxHeartbeats 1000000 in
/-- A frame that was made for a tuple, rewritten, is the one that is made for the other one. -/
theorem made_turn {L : Lk} {t : Tu} {f : Int} {load : List UInt8} (h6 : L.Six) (ho : t.Ok) (h : MakeOk L t f) (hl : ihN t + (shN_ t + load.length) ≤ 65535) {a : Ad} (ha : a.b.length = 16) {m : Int} (haf : ofB t.s.six a = true) (m0 : 0 ≤ m) (m1 : m ≤ 65535) (dst : Bool) :
    natL (makeK L t f load) a m dst = makeK L (tuN t a m dst) f load := by
  have hrd := make_read h6 ho h hl []
  rw [List.append_nil] at hrd
  have hlen := makeK_len h6 ho f load
  obtain ⟨z, six, n, p, u, hA⟩ := at_fine (xs := makeK L t f load) (by rw [hrd])
  obtain ⟨e1, e2, e3, e4, e5, e6, e7, e8, e9, _⟩ := hA.en
  rw [hrd] at e1 e2 e3 e4 e5 e6 e7 e8 e9
  have c3 : p = 14 + 4 * L.ts.length := by have : ((14 + 4 * L.ts.length : Nat) : Int) = (p : Int) := e3; omega
  have c2 : n.head = ihN t := by have : ((14 + 4 * L.ts.length + ihN t : Nat) : Int) = ((p + n.head : Nat) : Int) := e2; omega
  have c1 : n.total = ihN t + (shN_ t + load.length) := by have : ((14 + 4 * L.ts.length + (ihN t + (shN_ t + load.length)) : Nat) : Int) = ((p + n.total : Nat) : Int) := e1; omega
  have c4 : t.s.six = six := e4
  have c6 : udpT t = u := e6
  have c7 : t.s = n.s := e7
  have c8 : t.d = n.d := e8
  have hz : z = makeK L t f load := by rw [hA.zt, List.take_of_length_le]; omega
  subst hz
  subst c4
  subst c6
  rw [hA.nat]
  have hb := hA.f.bnd
  have hpp := plc_po (udpT t) dst
  have hlk := lkB_len (typed_six h6 t)
  have hlk' : (lkB (typedL L t)).length = p := by rw [hlk, c3]; rfl
  have hhd := headK_len ho (segK t f load).length
  have hsl : (fillK t f load).length = shN_ t + load.length := fillK_len
  -- the three parts of what is rewritten
  obtain ⟨y, hy⟩ : ∃ y, rewL (plF t.s.six n p (udpT t) dst) (makeK L t f load) (newB t.s.six a) m.toNat = y := ⟨_, rfl⟩
  have hyl : y.length = p + n.total := by rw [← hy, rewL_len, hA.l]
  have hr : (makeK L t f load).drop p = headK t (segK t f load).length ++ fillK t f load := by
    unfold makeK ipK
    rw [← hlk', List.drop_append_of_le_length (Nat.le_refl _), List.drop_length, List.nil_append]
  have y1 : y.take p = lkB (typedL L t) := by
    have := rewL_part (q := plF t.s.six n p (udpT t) dst) (xs := makeK L t f load) (new := newB t.s.six a) (m := m.toNat) (p := 0) (n := p) (by
      unfold plF
      cases t.s.six
      · right; right; show 0 + p ≤ p + 10; omega
      · left; rfl) (.inr (by show 0 + p ≤ p + _ + _; omega)) (.inr (by show 0 + p ≤ p + n.head + _; omega)) (.inr (by show 0 + p ≤ p + n.head + _; omega))
    rw [hy, List.drop_zero, List.drop_zero] at this
    rw [this]
    unfold makeK
    rw [← hlk', List.take_append_of_le_length (Nat.le_refl _), List.take_length]
  have y2 : (y.drop p).take n.head = headK (tuN t a m dst) (segK t f load).length := by
    rw [← hy, rewL_drop (by unfold plF; cases t.s.six <;> simp) (by show p ≤ p + _ + _; omega) (by show p ≤ p + n.head + _; omega) (by show p ≤ p + n.head + _; omega), hr, c2]
    refine headK_turn ho ha haf m dst _ _ _ _ ?_ ?_ ?_ ?_
    · show (if t.s.six = true then 0 else p + 10) - p = _
      split <;> omega
    · show p + (if t.s.six = true then 8 else 12) + (if dst = true then szA t.s.six else 0) - p = _
      omega
    · show ihN t ≤ p + n.head + poD dst - p
      omega
    · show ihN t ≤ p + n.head + plc (udpT t) - p
      omega
  have hsg : segN ((makeK L t f load).drop p) n = fillK t f load := by
    unfold segN
    rw [hr, c2, c1, ← hhd, List.drop_append_of_le_length (Nat.le_refl _), List.drop_length, List.nil_append, List.take_of_length_le (by omega)]
  have y3 := hA.f.seg ha m.toNat dst
  rw [hy, hsg, List.take_of_length_le (by rw [List.length_drop, List.length_drop]; omega)] at y3
  obtain ⟨S, hS⟩ : ∃ S, newC n (udpT t) t.s.six (fillK t f load) a m.toNat dst = S := ⟨_, rfl⟩
  rw [hS] at y3
  have hseg : segK t f load = segK t f load := rfl
  have hfs : faultB (udpT t) (segK t f load) = 0 := seg_fault h (by
    have h2 : 20 ≤ ihN t ∧ 8 ≤ shN_ t := by
      unfold ihN shN_
      constructor
      · split <;> omega
      · split <;> omega
    omega)
  have hff : faultB (udpT t) (fillK t f load) = 0 := fill_fault.1.trans hfs
  have hoa : (oldA t dst).b.length = 16 := by unfold oldA; split; exact ho.d; exact ho.s
  have hol : (newB t.s.six a).length = ((oldA t dst).b.take (szA t.s.six)).length := by rw [newB_len ha, List.length_take, hoa]; cases t.s.six <;> rfl
  have hSe : S = numW (udpT t) (wat (fillK t f load) (plc (udpT t))) ((oldA t dst).b.take (szA t.s.six)) (newB t.s.six a) (be2 (wat (fillK t f load) (poD dst))) (be2 m.toNat) := by
    rw [← hS]
    unfold newC oldA
    rw [c7, c8]
  have hN : numS (udpT t) (ck0 t.s.six t.s.b t.d.b (udpT t) (segK t f load)) ≤ 65535 := numS_le (ckS_le _ _ _ _ _)
  have hwk : wat (fillK t f load) (plc (udpT t)) = numS (udpT t) (ck0 t.s.six t.s.b t.d.b (udpT t) (segK t f load)) := by
    obtain ⟨t1, t2, t3⟩ := tot_ok hfs
    exact wat_put2 _ (by omega) (by omega)
  have hIn : InR (udpT t) (wat (fillK t f load) (plc (udpT t))) := by
    rw [hwk]
    have hlt : ck0 t.s.six t.s.b t.d.b (udpT t) (segK t f load) < 65535 := (ck_mod (pseudo_pos t.s.six t.s.b t.d.b _ _ (prN_pos _) (prN_lt _) _ false)).2
    refine ⟨hN, fun hu => ?_, fun hu => ?_⟩
    · unfold numS
      split
      · omega
      · rename_i hh
        have : ck0 t.s.six t.s.b t.d.b (udpT t) (segK t f load) ≠ 0 := fun e => hh ⟨hu, e⟩
        omega
    · unfold numS
      rw [if_neg (by rw [hu]; simp)]
      exact hlt
  have hSI : InR (udpT t) S := by rw [hSe]; exact numW_in hol rfl hIn
  have hSl := hSI.1
  have hto := tuN_ok ho ha m dst
  have hsd := segK_port t f load a m dst
  have e3' : segW (udpT t) (fillK t f load) S dst m.toNat = setL (segK (tuN t a m dst) f load) (plc (udpT t)) (be2 S) := by
    unfold segW fillK fillS
    rw [put2_setL, setL_setL (by rw [be2_len, be2_len]), ← setL_comm _ (k := poD dst) (j := plc (udpT t)) (by rw [be2_len]; omega), hsd]
  have hfs' : faultB (udpT t) (segK (tuN t a m dst) f load) = 0 := by
    have := keep_fault (u := udpT t) (xs := segK t f load) (ys := segK (tuN t a m dst) f load) (by rw [← hsd, setL_len]) (fun _ => by rw [← hsd]; exact setL_bne (by rw [be2_len]; omega)) (fun _ => by rw [← hsd]; exact setL_wne (by rw [be2_len]; omega))
    exact this.1.trans hfs
  have hrt : rightS t.s.six (tuN t a m dst).s.b (tuN t a m dst).d.b (udpT t) (segW (udpT t) (fillK t f load) S dst m.toNat) = true := by
    have := segW_right (six := t.s.six) (dst := dst) ho ha (m := m.toNat) hff (by omega) (mi := m)
    rw [← hSe] at this
    rw [this]
    exact fill_right ho.s ho.d hfs
  have hck : ckS t.s.six (tuN t a m dst).s.b (tuN t a m dst).d.b (udpT t) (setL (segK (tuN t a m dst) f load) (plc (udpT t)) (be2 S)) = 0 := by
    rw [e3'] at hrt
    unfold rightS at hrt
    rw [if_neg (by
      rintro ⟨hu, hw⟩
      obtain ⟨t1, t2, t3⟩ := tot_ok hfs'
      have hw2 : wat (setL (segK (tuN t a m dst) f load) (plc (udpT t)) (be2 S)) (plc (udpT t)) = S := setL_wat (by omega) (by omega)
      have hp6 : plc (udpT t) = 6 := by rw [hu]; rfl
      rw [hp6] at hw2 hw
      have := hSI.2.1 hu
      omega)] at hrt
    exact of_decide_eq_true hrt
  have hfu := fill_uniq hto.s hto.d hfs' hSI hck
  have ys : y = y.take p ++ ((y.drop p).take n.head ++ (y.drop p).drop n.head) := by rw [List.take_append_drop, List.take_append_drop]
  have hfk : fillK (tuN t a m dst) f load = fillS t.s.six (tuN t a m dst).s.b (tuN t a m dst).d.b (udpT t) (segK (tuN t a m dst) f load) := by
    have e : (tuN t a m dst).s.six = t.s.six := by
      cases dst
      · exact of_six haf
      · rfl
    unfold fillK
    rw [e, tuN_udp]
  have hkl : (segK (tuN t a m dst) f load).length = (segK t f load).length := by rw [← hsd, setL_len]
  rw [hy, ys, y1, y2, y3, e3', hfu]
  unfold makeK ipK
  rw [typed_turn L haf, hfk, hkl]
end Go.Proofs.Ytkmcopenflakkaa
