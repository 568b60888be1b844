/-
  Plain mathematics of stage 8: an IPv4 header, its bytes, its reading. No program is named here.
-/
import Derived.Test.YtgjjepcjdekihaaNum
import Derived.Test.YtgjjepcjdekihaaIMath
namespace Go.Proofs.Ytgjjepcjdekihaa

/-- Byte i, 0 behind the end. -/
def batN (xs : List UInt8) (i : Nat) : Nat := (xs.getD i 0).toNat
theorem batN_lt (xs : List UInt8) (i : Nat) : batN xs i < 256 := (xs.getD i 0).toNat_lt
/-- The word that begins at byte i. -/
def wat (xs : List UInt8) (i : Nat) : Nat := 256 * batN xs i + batN xs (i + 1)
theorem wat_lt (xs : List UInt8) (i : Nat) : wat xs i < 65536 := by
  have := batN_lt xs i
  have := batN_lt xs (i + 1)
  unfold wat
  omega
theorem two_of (xs : List UInt8) (p : Nat) (h : p + 2 ≤ xs.length) : (xs.drop p).take 2 = [xs[p], xs[p + 1]] := by
  have e1 : xs.drop p = xs[p] :: xs.drop (p + 1) := List.drop_eq_getElem_cons (by omega)
  have e2 : xs.drop (p + 1) = xs[p + 1] :: xs.drop (p + 2) := List.drop_eq_getElem_cons (by omega)
  rw [e1, e2]
  rfl
theorem wat_num (xs : List UInt8) (p : Nat) (h : p + 2 ≤ xs.length) : num ((xs.drop p).take 2) = wat xs p := by
  rw [two_of xs p h]
  unfold wat batN
  simp [num, List.getD, List.getElem?_eq_getElem (show p < xs.length by omega), List.getElem?_eq_getElem (show p + 1 < xs.length by omega)]
/-- A number in two bytes. -/
def be2 (n : Nat) : List UInt8 := [UInt8.ofNat (n / 256), UInt8.ofNat (n % 256)]
theorem be2_len (n : Nat) : (be2 n).length = 2 := rfl
theorem be2_dig (n : Nat) : (dig n 2).reverse = be2 n := by
  simp only [dig, be2, List.reverse_cons, List.reverse_nil, List.nil_append, List.cons_append]
  congr 2
  apply UInt8.toNat_inj.1
  simp
theorem wordsOf_at : ∀ (xs : List UInt8) (k : Nat), 2 * k < xs.length → (wordsOf xs)[k]? = some (wat xs (2 * k))
  | [], k, h => by simp at h
  | [x], k, h => by
    obtain rfl : k = 0 := by simp at h; omega
    simp [wordsOf, wat, batN]
  | x :: y :: r, 0, _ => by simp [wordsOf, wat, batN]
  | x :: y :: r, k + 1, h => by
    have ih := wordsOf_at r k (by simp at h; omega)
    simp only [wordsOf, List.getElem?_cons_succ, ih]
    congr 1

/-- An address: of IPv6?, its sixteen bytes. -/
structure Ad where
  six : Bool
  b : List UInt8
/-- A header. -/
structure Fr where
  head : Int
  total : Int
  tos : Int
  id : Int
  frag : Bool
  keep : Bool
  ttl : Int
  proto : Int
  s : Ad
  d : Ad
/-- Both addresses have sixteen bytes. -/
structure Fr.Ok (f : Fr) : Prop where
  s : f.s.b.length = 16
  d : f.d.b.length = 16
def z12 : List UInt8 := [0, 0, 0, 0, 0, 0, 0, 0, 0, 0, 0, 0]
def z16 : List UInt8 := [0, 0, 0, 0, 0, 0, 0, 0, 0, 0, 0, 0, 0, 0, 0, 0]
def Ad.zero : Ad := ⟨false, z16⟩
def Fr.zero : Fr := ⟨0, 0, 0, 0, false, false, 0, 0, Ad.zero, Ad.zero⟩
theorem Fr.ok_zero : Fr.zero.Ok := ⟨rfl, rfl⟩

/-- The address of four bytes from place p on. -/
def adOf (xs : List UInt8) (p : Nat) : Ad := ⟨false, (xs.drop p).take 4 ++ z12⟩
theorem adOf_len (xs : List UInt8) (p : Nat) (h : p + 4 ≤ xs.length) : (adOf xs p).b.length = 16 := by
  show ((xs.drop p).take 4 ++ z12).length = 16
  rw [List.length_append, List.length_take, List.length_drop, Nat.min_eq_left (by omega)]
  rfl
/-- How many bytes the header has, by what it tells. -/
def ihl (xs : List UInt8) : Nat := 4 * (batN xs 0 % 16)
theorem ihl_le (xs : List UInt8) : ihl xs ≤ 60 := by unfold ihl; omega
def frOf (xs : List UInt8) : Fr := ⟨(ihl xs : Nat), (wat xs 2 : Nat), (batN xs 1 : Nat), (wat xs 4 : Nat), decide (wat xs 6 % 16384 ≠ 0), decide (wat xs 6 / 16384 % 2 ≠ 0), (batN xs 8 : Nat), (batN xs 9 : Nat), adOf xs 12, adOf xs 16⟩
theorem frOf_ok (xs : List UInt8) (h : 20 ≤ xs.length) : (frOf xs).Ok := ⟨adOf_len xs 12 (by omega), adOf_len xs 16 (by omega)⟩
/-- Why no packet begins there: 0 if one does. -/
def faultN (xs : List UInt8) : Nat :=
  if xs.length < 20 then 2 else if batN xs 0 / 16 ≠ 4 ∨ ihl xs < 20 then 3 else if xs.length < ihl xs then 2 else if wat xs 2 < ihl xs then 3 else if xs.length < wat xs 2 then 2 else if ckOf (xs.take (ihl xs)) ≠ 0 then 8 else 0
theorem fault_short {xs : List UInt8} (h : xs.length < 20) : faultN xs = 2 := by unfold faultN; rw [if_pos h]
theorem fault_form {xs : List UInt8} (h : 20 ≤ xs.length) (h2 : batN xs 0 / 16 ≠ 4 ∨ ihl xs < 20) : faultN xs = 3 := by unfold faultN; rw [if_neg (by omega), if_pos h2]
theorem fault_head {xs : List UInt8} (h : 20 ≤ xs.length) (h1 : batN xs 0 / 16 = 4) (h2 : 20 ≤ ihl xs) (h3 : xs.length < ihl xs) : faultN xs = 2 := by unfold faultN; rw [if_neg (by omega), if_neg (by omega), if_pos h3]
theorem fault_less {xs : List UInt8} (h : 20 ≤ xs.length) (h1 : batN xs 0 / 16 = 4) (h2 : 20 ≤ ihl xs) (h3 : ihl xs ≤ xs.length) (h4 : wat xs 2 < ihl xs) : faultN xs = 3 := by
  unfold faultN; rw [if_neg (by omega), if_neg (by omega), if_neg (by omega), if_pos h4]
theorem fault_more {xs : List UInt8} (h : 20 ≤ xs.length) (h1 : batN xs 0 / 16 = 4) (h2 : 20 ≤ ihl xs) (h3 : ihl xs ≤ xs.length) (h4 : ihl xs ≤ wat xs 2) (h5 : xs.length < wat xs 2) : faultN xs = 2 := by
  unfold faultN; rw [if_neg (by omega), if_neg (by omega), if_neg (by omega), if_neg (by omega), if_pos h5]
theorem fault_sum {xs : List UInt8} (h : 20 ≤ xs.length) (h1 : batN xs 0 / 16 = 4) (h2 : 20 ≤ ihl xs) (h3 : ihl xs ≤ xs.length) (h4 : ihl xs ≤ wat xs 2) (h5 : wat xs 2 ≤ xs.length) (h6 : ckOf (xs.take (ihl xs)) ≠ 0) : faultN xs = 8 := by
  unfold faultN; rw [if_neg (by omega), if_neg (by omega), if_neg (by omega), if_neg (by omega), if_neg (by omega), if_pos h6]
theorem fault_no {xs : List UInt8} (h : 20 ≤ xs.length) (h1 : batN xs 0 / 16 = 4) (h2 : 20 ≤ ihl xs) (h3 : ihl xs ≤ xs.length) (h4 : ihl xs ≤ wat xs 2) (h5 : wat xs 2 ≤ xs.length) (h6 : ckOf (xs.take (ihl xs)) = 0) : faultN xs = 0 := by
  unfold faultN; rw [if_neg (by omega), if_neg (by omega), if_neg (by omega), if_neg (by omega), if_neg (by omega), if_neg (by omega)]
theorem fault_zero {xs : List UInt8} (h : faultN xs = 0) : 20 ≤ xs.length ∧ ckOf (xs.take (ihl xs)) = 0 := by
  unfold faultN at h
  split at h
  · omega
  split at h
  · omega
  split at h
  · omega
  split at h
  · omega
  split at h
  · omega
  split at h
  · omega
  rename_i h1 _ _ _ _ h6
  exact ⟨by omega, by omega⟩
theorem faultN_le (xs : List UInt8) : faultN xs ≤ 8 := by
  unfold faultN
  repeat' split
  all_goals omega
/-- The header that is read, and the error. -/
def rdF (xs : List UInt8) : Fr := if faultN xs = 0 then frOf xs else Fr.zero
theorem rdF_ok (xs : List UInt8) : (rdF xs).Ok := by
  unfold rdF
  split
  · rename_i h
    exact frOf_ok xs (fault_zero h).1
  · exact Fr.ok_zero
theorem rdF_yes {xs : List UInt8} (h : faultN xs = 0) : rdF xs = frOf xs := by unfold rdF; rw [if_pos h]
theorem rdF_no {xs : List UInt8} (h : faultN xs ≠ 0) : rdF xs = Fr.zero := by unfold rdF; rw [if_neg h]

/-- Is a number from lo to hi? -/
def inB (z lo hi : Int) : Bool := decide (lo ≤ z ∧ z ≤ hi)
/-- Is an address one of IPv4? -/
def shortB (a : Ad) : Bool := !a.six && (a.b.drop 4).all (· == 0)
theorem short_eq {a : Ad} (h : a.b.length = 16) : shortB a = true ↔ a = ⟨false, a.b.take 4 ++ z12⟩ := by
  obtain ⟨six, b⟩ := a
  match b, h with
  | [b0, b1, b2, b3, b4, b5, b6, b7, b8, b9, b10, b11, b12, b13, b14, b15], _ =>
    simp [shortB, z12]
/-- May a header be laid? -/
def rightB (f : Fr) : Bool := decide (f.head = 20) && (inB f.total 20 65535 && (!f.frag && (inB f.tos 0 255 && (inB f.ttl 0 255 && (inB f.proto 0 255 && (inB f.id 0 65535 && (shortB f.s && shortB f.d)))))))
structure Fr.Good (f : Fr) : Prop where
  head : f.head = 20
  t0 : 20 ≤ f.total
  t1 : f.total ≤ 65535
  frag : f.frag = false
  o0 : 0 ≤ f.tos
  o1 : f.tos ≤ 255
  l0 : 0 ≤ f.ttl
  l1 : f.ttl ≤ 255
  p0 : 0 ≤ f.proto
  p1 : f.proto ≤ 255
  i0 : 0 ≤ f.id
  i1 : f.id ≤ 65535
  s : shortB f.s = true
  d : shortB f.d = true
theorem right_good {f : Fr} (h : rightB f = true) : f.Good := by
  simp only [rightB, inB, Bool.and_eq_true, decide_eq_true_eq, Bool.not_eq_true'] at h
  obtain ⟨h1, ⟨h2, h3⟩, h4, ⟨h5, h6⟩, ⟨h7, h8⟩, ⟨h9, h10⟩, ⟨h11, h12⟩, h13, h14⟩ := h
  exact ⟨h1, h2, h3, h4, h5, h6, h7, h8, h9, h10, h11, h12, h13, h14⟩

/-- Twenty bytes of a header. -/
def hdr (O T I W L P c : Nat) (s d : List UInt8) : List UInt8 :=
  69 :: UInt8.ofNat O :: UInt8.ofNat (T / 256) :: UInt8.ofNat (T % 256) :: UInt8.ofNat (I / 256) :: UInt8.ofNat (I % 256) :: UInt8.ofNat (W / 256) :: UInt8.ofNat (W % 256) ::
    UInt8.ofNat L :: UInt8.ofNat P :: UInt8.ofNat (c / 256) :: UInt8.ofNat (c % 256) :: (s ++ d)
def hdrF (f : Fr) (W c : Nat) : List UInt8 := hdr f.tos.toNat f.total.toNat f.id.toNat W f.ttl.toNat f.proto.toNat c (f.s.b.take 4) (f.d.b.take 4)
def flagW (f : Fr) : Nat := if f.keep then 16384 else 0
theorem flagW_lt (f : Fr) : flagW f < 65536 := by unfold flagW; split <;> omega
/-- The bytes of a header, with its checksum; and with any flags. -/
def putW (f : Fr) (W : Nat) : List UInt8 := hdrF f W (ckOf (hdrF f W 0))
def putF (f : Fr) : List UInt8 := putW f (flagW f)
theorem u8nat {n : Nat} (h : n < 256) : (UInt8.ofNat n).toNat = n := by rw [UInt8.toNat_ofNat', Nat.mod_eq_of_lt h]
theorem hdr_sum (O T I W L P c : Nat) (s d : List UInt8) (hc : c < 65536) : wsum false (hdr O T I W L P c s d) = wsum false (hdr O T I W L P 0 s d) + c := by
  unfold hdr
  simp only [wsum, Bool.not_false, Bool.not_true, if_true, if_false, Bool.false_eq_true]
  rw [u8nat (show c / 256 < 256 by omega), u8nat (show c % 256 < 256 by omega), u8nat (show 0 / 256 < 256 by omega)]
  omega
theorem hdr_pos (O T I W L P c : Nat) (s d : List UInt8) : 0 < wsum false (hdr O T I W L P c s d) := by
  unfold hdr
  have : (69 : UInt8).toNat = 69 := rfl
  simp only [wsum, Bool.false_eq_true, if_false, this]
  omega
theorem hdr_right (O T I W L P : Nat) (s d : List UInt8) : ckOf (hdr O T I W L P (ckOf (hdr O T I W L P 0 s d)) s d) = 0 := by
  have hle := ckOf_le (hdr O T I W L P 0 s d)
  have hn := nrm_le (wsum false (hdr O T I W L P 0 s d))
  rw [ckOf_zero]
  unfold rsumOf
  rw [hdr_sum _ _ _ _ _ _ _ _ _ (by omega), ← nrm_add]
  unfold ckOf rsumOf
  rw [nrm_small (by omega)]
  omega
theorem hdr_len (O T I W L P c : Nat) (s d : List UInt8) (hs : s.length = 4) (hd : d.length = 4) : (hdr O T I W L P c s d).length = 20 := by
  unfold hdr
  simp only [List.length_cons, List.length_append, hs, hd]
theorem take4 {xs : List UInt8} (h : xs.length = 16) : (xs.take 4).length = 4 := by rw [List.length_take, h]; rfl
theorem putW_len {f : Fr} (h : f.Ok) (W : Nat) : (putW f W).length = 20 := hdr_len _ _ _ _ _ _ _ _ _ (take4 h.s) (take4 h.d)
theorem putF_len {f : Fr} (h : f.Ok) : (putF f).length = 20 := putW_len h _
theorem hdrF_len {f : Fr} (h : f.Ok) (W c : Nat) : (hdrF f W c).length = 20 := hdr_len _ _ _ _ _ _ _ _ _ (take4 h.s) (take4 h.d)
theorem putW_right (f : Fr) (W : Nat) : ckOf (putW f W) = 0 := hdr_right _ _ _ _ _ _ _ _
section
variable (O T I W L P c : Nat) (s d rest : List UInt8)
theorem hdr_drop : (hdr O T I W L P c s d ++ rest).drop 12 = s ++ (d ++ rest) := by
  show (s ++ d) ++ rest = _
  rw [List.append_assoc]
theorem hdr_b0 : batN (hdr O T I W L P c s d ++ rest) 0 = 69 := rfl
theorem hdr_b1 (h : O < 256) : batN (hdr O T I W L P c s d ++ rest) 1 = O := (show _ = (UInt8.ofNat O).toNat from rfl).trans (u8nat h)
theorem hdr_b2 (h : T < 65536) : wat (hdr O T I W L P c s d ++ rest) 2 = T := by
  show 256 * (UInt8.ofNat (T / 256)).toNat + (UInt8.ofNat (T % 256)).toNat = T
  rw [u8nat (by omega), u8nat (by omega)]; omega
theorem hdr_b4 (h : I < 65536) : wat (hdr O T I W L P c s d ++ rest) 4 = I := by
  show 256 * (UInt8.ofNat (I / 256)).toNat + (UInt8.ofNat (I % 256)).toNat = I
  rw [u8nat (by omega), u8nat (by omega)]; omega
theorem hdr_b6 (h : W < 65536) : wat (hdr O T I W L P c s d ++ rest) 6 = W := by
  show 256 * (UInt8.ofNat (W / 256)).toNat + (UInt8.ofNat (W % 256)).toNat = W
  rw [u8nat (by omega), u8nat (by omega)]; omega
theorem hdr_b8 (h : L < 256) : batN (hdr O T I W L P c s d ++ rest) 8 = L := (show _ = (UInt8.ofNat L).toNat from rfl).trans (u8nat h)
theorem hdr_b9 (h : P < 256) : batN (hdr O T I W L P c s d ++ rest) 9 = P := (show _ = (UInt8.ofNat P).toNat from rfl).trans (u8nat h)
theorem hdr_s (hs : s.length = 4) : adOf (hdr O T I W L P c s d ++ rest) 12 = ⟨false, s ++ z12⟩ := by
  unfold adOf
  rw [hdr_drop, List.take_append_of_le_length (by omega), List.take_of_length_le (by omega)]
theorem hdr_d (hs : s.length = 4) (hd : d.length = 4) : adOf (hdr O T I W L P c s d ++ rest) 16 = ⟨false, d ++ z12⟩ := by
  unfold adOf
  rw [show (16 : Nat) = 12 + 4 from rfl, ← List.drop_drop, hdr_drop, List.drop_append_of_le_length (by omega), List.drop_of_length_le (by omega), List.nil_append, List.take_append_of_le_length (by omega), List.take_of_length_le (by omega)]
end
/-- The parts of a header that may be laid, as whole numbers. -/
theorem Fr.Good.nats {f : Fr} (g : f.Good) (h : f.Ok) : ∃ T O I L P : Nat, f = ⟨20, (T : Int), (O : Int), (I : Int), false, f.keep, (L : Int), (P : Int), ⟨false, f.s.b.take 4 ++ z12⟩, ⟨false, f.d.b.take 4 ++ z12⟩⟩ ∧ 20 ≤ T ∧ T < 65536 ∧ O < 256 ∧ I < 65536 ∧ L < 256 ∧ P < 256 := by
  have es := (short_eq h.s).1 g.s
  have ed := (short_eq h.d).1 g.d
  obtain ⟨T, hT⟩ := Int.eq_ofNat_of_zero_le (show 0 ≤ f.total by have := g.t0; omega)
  obtain ⟨O, hO⟩ := Int.eq_ofNat_of_zero_le g.o0
  obtain ⟨I, hI⟩ := Int.eq_ofNat_of_zero_le g.i0
  obtain ⟨L, hL⟩ := Int.eq_ofNat_of_zero_le g.l0
  obtain ⟨P, hP⟩ := Int.eq_ofNat_of_zero_le g.p0
  have t0 := g.t0
  have t1 := g.t1
  have o1 := g.o1
  have i1 := g.i1
  have l1 := g.l1
  have p1 := g.p1
  have e0 := g.head
  have e4 := g.frag
  obtain ⟨h0, tt, oo, ii, fr, ke, ll, pp, ss, dd⟩ := f
  exact ⟨T, O, I, L, P, by simp only at *; rw [e0, hT, hO, hI, e4, hL, hP, ← es, ← ed], by simp only at *; omega, by simp only at *; omega, by simp only at *; omega, by simp only at *; omega, by simp only at *; omega, by simp only at *; omega⟩
/-- What bytes that begin so are read as. -/
theorem put_back {f : Fr} (h : f.Ok) (hr : rightB f = true) {W : Nat} (hW : W < 65536) (rest : List UInt8) (hl : f.total ≤ ((putW f W ++ rest).length : Nat)) :
    faultN (putW f W ++ rest) = 0 ∧ rdF (putW f W ++ rest) = { f with frag := decide (W % 16384 ≠ 0), keep := decide (W / 16384 % 2 ≠ 0) } := by
  obtain ⟨T, O, I, L, P, hf, t0, t1, o1, i1, l1, p1⟩ := (right_good hr).nats h
  have h20 := putW_len h W
  have hright := putW_right f W
  have s4 := take4 h.s
  have d4 := take4 h.d
  generalize f.s.b.take 4 = s at *
  generalize f.d.b.take 4 = d at *
  generalize f.keep = k at *
  subst hf
  obtain ⟨c, hc⟩ : ∃ c, ckOf (hdrF ⟨20, (T : Int), (O : Int), (I : Int), false, k, (L : Int), (P : Int), ⟨false, s ++ z12⟩, ⟨false, d ++ z12⟩⟩ W 0) = c := ⟨_, rfl⟩
  have ts : (s ++ z12).take 4 = s := by rw [List.take_append_of_le_length (by omega), List.take_of_length_le (by omega)]
  have td : (d ++ z12).take 4 = d := by rw [List.take_append_of_le_length (by omega), List.take_of_length_le (by omega)]
  have e : putW ⟨20, (T : Int), (O : Int), (I : Int), false, k, (L : Int), (P : Int), ⟨false, s ++ z12⟩, ⟨false, d ++ z12⟩⟩ W = hdr O T I W L P c s d := by
    unfold putW
    rw [hc]
    unfold hdrF
    simp only [Int.toNat_natCast, ts, td]
  rw [e] at h20 hright hl ⊢
  obtain ⟨xs, hxs⟩ : ∃ xs, hdr O T I W L P c s d ++ rest = xs := ⟨_, rfl⟩
  have htake : xs.take 20 = hdr O T I W L P c s d := by rw [← hxs, ← h20]; simp
  have b0 := hdr_b0 O T I W L P c s d rest
  have b1 := hdr_b1 O T I W L P c s d rest o1
  have b2 := hdr_b2 O T I W L P c s d rest t1
  have b4 := hdr_b4 O T I W L P c s d rest i1
  have b6 := hdr_b6 O T I W L P c s d rest hW
  have b8 := hdr_b8 O T I W L P c s d rest l1
  have b9 := hdr_b9 O T I W L P c s d rest p1
  have a12 := hdr_s O T I W L P c s d rest s4
  have a16 := hdr_d O T I W L P c s d rest s4 d4
  have hlen : 20 ≤ xs.length := by rw [← hxs, List.length_append, h20]; omega
  have hl' : (T : Int) ≤ (xs.length : Nat) := by rw [← hxs]; exact hl
  rw [hxs] at b0 b1 b2 b4 b6 b8 b9 a12 a16 ⊢
  have hi : ihl xs = 20 := by unfold ihl; rw [b0]
  have hff : faultN xs = 0 := fault_no hlen (by rw [b0]) (by omega) (by omega) (by omega) (by omega) (by rw [hi, htake]; exact hright)
  refine ⟨hff, ?_⟩
  rw [rdF_yes hff]
  unfold frOf
  rw [hi, b1, b2, b4, b6, b8, b9, a12, a16]
  rfl
theorem flagW_frag (f : Fr) : decide (flagW f % 16384 ≠ 0) = false := by unfold flagW; split <;> rfl
theorem flagW_keep (f : Fr) : decide (flagW f / 16384 % 2 ≠ 0) = f.keep := by unfold flagW; split <;> simp_all
theorem putF_back {f : Fr} (h : f.Ok) (hr : rightB f = true) (rest : List UInt8) (hl : f.total ≤ ((putF f ++ rest).length : Nat)) : faultN (putF f ++ rest) = 0 ∧ rdF (putF f ++ rest) = f := by
  obtain ⟨h1, h2⟩ := put_back h hr (flagW_lt f) rest hl
  refine ⟨h1, h2.trans ?_⟩
  rw [flagW_frag, flagW_keep, ← (right_good hr).frag]
/-- Of fewer bytes it ends too early. -/
theorem putF_cut {f : Fr} (h : f.Ok) (hr : rightB f = true) (rest : List UInt8) (k : Nat) (hk : (k : Int) < f.total) (hl : k ≤ (putF f ++ rest).length) : faultN ((putF f ++ rest).take k) = 2 := by
  have g := right_good hr
  obtain ⟨ys, hys⟩ : ∃ ys, (putF f ++ rest).take k = ys := ⟨_, rfl⟩
  have hyl : ys.length = k := by rw [← hys, List.length_take]; omega
  rw [hys]
  by_cases h20 : k < 20
  · exact fault_short (by omega)
  · have e : ys = putF f ++ rest.take (k - 20) := by
      rw [← hys, List.take_append, putF_len h, List.take_of_length_le (by rw [putF_len h]; omega)]
    have b0 : batN ys 0 = 69 := by rw [e]; rfl
    have hi : ihl ys = 20 := by unfold ihl; rw [b0]
    have b2 : (wat ys 2 : Int) = f.total := by
      have t0 := g.t0
      have t1 := g.t1
      have h1 : batN ys 2 = f.total.toNat / 256 := by rw [e]; exact u8nat (by omega)
      have h2 : batN ys 3 = f.total.toNat % 256 := by rw [e]; exact u8nat (by omega)
      unfold wat; rw [h1, h2]; omega
    have t0 := g.t0
    exact fault_more (by omega) (by rw [b0]) (by omega) (by omega) (by omega) (by omega)

/-- One byte changed turns a sum that is right to one that isn't. -/
theorem wsum_set (xs : List UInt8) : ∀ (o : Bool) (k : Nat) (x y : UInt8), xs[k]? = some x → ∃ m : Nat, (m = 1 ∨ m = 256) ∧ wsum o (xs.set k y) + m * x.toNat = wsum o xs + m * y.toNat := by
  induction xs with
  | nil => intro o k x y h; simp at h
  | cons z zs ih =>
    intro o k x y h
    match k, h with
    | 0, h =>
      simp at h
      subst h
      refine ⟨if o then 1 else 256, by cases o <;> simp, ?_⟩
      simp only [List.set_cons_zero, wsum]
      cases o <;> simp <;> omega
    | k + 1, h =>
      obtain ⟨m, hm, he⟩ := ih (!o) k x y (by simpa using h)
      refine ⟨m, hm, ?_⟩
      simp only [List.set_cons_succ, wsum]
      omega
theorem ck_spoilt {xs : List UInt8} (h : ckOf xs = 0) {k : Nat} {x y : UInt8} (hx : xs[k]? = some x) (hne : x ≠ y) (hp : 0 < wsum false (xs.set k y)) : ckOf (xs.set k y) ≠ 0 := by
  intro h0
  obtain ⟨m, hm, he⟩ := wsum_set xs false k x y hx
  rw [ckOf_zero] at h h0
  unfold rsumOf at h h0
  have hp2 : 0 < wsum false xs := by
    rcases Nat.eq_zero_or_pos (wsum false xs) with e | e
    · rw [e] at h; simp [nrm] at h
    · exact e
  rw [nrm_pos hp2] at h
  rw [nrm_pos hp] at h0
  have hxl := x.toNat_lt
  have hyl := y.toNat_lt
  have hne' : x.toNat ≠ y.toNat := fun e => hne (UInt8.toNat_inj.1 e)
  rcases hm with rfl | rfl <;> omega
theorem xor_ne {x t : UInt8} (ht : t ≠ 0) : x ≠ x ^^^ t := by
  intro h
  apply ht
  have := congrArg (x ^^^ ·) h
  simpa [← UInt8.xor_assoc] using this.symm
/-- One byte of a laid header changed: it is refused, unless a longer header is told of. -/
theorem putF_spoilt {f : Fr} (h : f.Ok) (rest : List UInt8) (k : Nat) (hk : k < 20) (x y : UInt8) (hx : (putF f ++ rest)[k]? = some x) (hne : x ≠ y)
    (hz : ¬ (k = 0 ∧ y.toNat / 16 = 4 ∧ 5 < y.toNat % 16)) : faultN ((putF f ++ rest).set k y) ≠ 0 := by
  intro h0
  have h20 := putF_len h
  have hx' : (putF f)[k]? = some x := by rw [← hx, List.getElem?_append_left (by omega)]
  obtain ⟨h1, h2⟩ := fault_zero h0
  obtain ⟨zs, hzs⟩ : ∃ zs, (putF f ++ rest).set k y = zs := ⟨_, rfl⟩
  have ez : zs = (putF f).set k y ++ rest := by rw [← hzs, List.set_append_left _ _ (by omega)]
  rw [hzs] at h0 h1 h2
  have e0 : (putF f)[0]? = some 69 := rfl
  by_cases hk0 : k = 0
  · subst hk0
    have hb : batN zs 0 = y.toNat := by
      rw [ez]
      unfold batN
      rw [List.getD, List.getElem?_append_left (by rw [List.length_set]; omega), List.getElem?_set_self (by omega)]
      rfl
    have hx69 : x = 69 := by rw [e0] at hx'; exact (Option.some.inj hx').symm
    have hyne : y.toNat ≠ 69 := fun e => hne (by rw [hx69]; exact (UInt8.toNat_inj.1 (by rw [e]; rfl)).symm)
    have hyl := y.toNat_lt
    by_cases hv : y.toNat / 16 = 4
    · have hq : y.toNat % 16 < 5 := by
        have : ¬ 5 < y.toNat % 16 := fun h => hz ⟨rfl, hv, h⟩
        omega
      have := fault_form (xs := zs) h1 (.inr (by unfold ihl; rw [hb]; omega))
      omega
    · have := fault_form (xs := zs) h1 (.inl (by rw [hb]; exact hv))
      omega
  · have hb : batN zs 0 = 69 := by
      rw [ez]
      unfold batN
      rw [List.getD, List.getElem?_append_left (by rw [List.length_set]; omega), List.getElem?_set_ne (by omega), e0]
      rfl
    have hi : ihl zs = 20 := by unfold ihl; rw [hb]
    rw [hi, ez, List.take_append_of_le_length (by rw [List.length_set]; omega), List.take_of_length_le (by rw [List.length_set]; omega)] at h2
    have hpos : 0 < wsum false ((putF f).set k y) := by
      obtain ⟨j, rfl⟩ : ∃ j, k = j + 1 := ⟨k - 1, by omega⟩
      show 0 < wsum false ((hdr _ _ _ _ _ _ _ _ _).set (j + 1) y)
      unfold hdr
      have : (69 : UInt8).toNat = 69 := rfl
      simp only [List.set_cons_succ, wsum, Bool.false_eq_true, if_false, this]
      omega
    exact ck_spoilt (putW_right f _) hx' hne hpos h2
end Go.Proofs.Ytgjjepcjdekihaa
