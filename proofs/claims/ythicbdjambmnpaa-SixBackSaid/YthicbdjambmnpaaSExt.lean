/-
  Extensions of the statements: what they are, their bytes in a row, and how they are gone through. Slices of them: what they read as, owned, appended, stored into.
-/
import Derived.Test.YthicbdjambmnpaaSOpen
namespace Go.Proofs.Ythicbdjambmnpaa
open Go.RowKit Go.Lib

/-- An extension of the statements. -/
structure Ex where
  kind : Nat
  long : Nat
  part : Nat
structure Ex.Fit (x : Ex) : Prop where
  k : x.kind < 256
  l : x.long < 256
  p : x.part < 65536
def kOf (n : Nat) : Nat := if n % 5 = 0 then 0 else if n % 5 = 1 then 43 else if n % 5 = 2 then 60 else if n % 5 = 3 then 51 else 44
def Ex.k (x : Ex) : Nat := kOf x.kind
/-- How many bytes it has. -/
def Ex.n (x : Ex) : Nat := if x.k = 51 then 8 + 4 * (x.long % 3) else if x.k = 44 then 8 else 8 + 8 * (x.long % 3)
theorem kOf_ext (n : Nat) : extB (kOf n) = true := by
  unfold kOf
  repeat' split
  all_goals rfl
theorem kOf_lt (n : Nat) : kOf n < 256 := by
  unfold kOf
  repeat' split
  all_goals decide
theorem Ex.k_ext (x : Ex) : extB x.k = true := kOf_ext _
theorem Ex.n_ge (x : Ex) : 8 ≤ x.n := by
  unfold Ex.n
  repeat' split
  all_goals omega
theorem Ex.n_le (x : Ex) : x.n ≤ 24 := by
  unfold Ex.n
  repeat' split
  all_goals omega
/-- Its bytes, f behind it. -/
def exB (x : Ex) (f : Nat) : List UInt8 :=
  if x.k = 44 then (((List.replicate x.n (0 : UInt8)).set 0 (UInt8.ofNat f)).set 2 (UInt8.ofNat (x.part / 256))).set 3 (UInt8.ofNat (x.part % 256))
  else ((List.replicate x.n (0 : UInt8)).set 0 (UInt8.ofNat f)).set 1 (UInt8.ofNat (x.long % 3))
theorem exB_len (x : Ex) (f : Nat) : (exB x f).length = x.n := by
  unfold exB
  split <;> simp
theorem batN_set (l : List UInt8) {i : Nat} (h : i < l.length) (v : UInt8) : batN (l.set i v) i = v.toNat := by
  unfold batN
  rw [List.getD, List.getElem?_set_self h]
  rfl
theorem batN_other (l : List UInt8) {i j : Nat} (h : i ≠ j) (v : UInt8) : batN (l.set i v) j = batN l j := by
  unfold batN
  rw [List.getD, List.getD, List.getElem?_set_ne h]
theorem batN_zero (n j : Nat) : batN (List.replicate n 0) j = 0 := by
  unfold batN
  rw [List.getD, List.getElem?_replicate]
  split <;> rfl
theorem exB_0 (x : Ex) {f : Nat} (h : f < 256) : batN (exB x f) 0 = f := by
  have hn := x.n_ge
  unfold exB
  split
  · rw [batN_other _ (by decide), batN_other _ (by decide), batN_set _ (by rw [List.length_replicate]; omega), u8nat h]
  · rw [batN_other _ (by decide), batN_set _ (by rw [List.length_replicate]; omega), u8nat h]
theorem exB_1 (x : Ex) (f : Nat) : szN x.k (batN (exB x f) 1) = x.n := by
  have hn := x.n_ge
  by_cases h : x.k = 44
  · unfold szN Ex.n
    rw [if_pos h, h]
    rfl
  · have e : batN (exB x f) 1 = x.long % 3 := by
      unfold exB
      rw [if_neg h, batN_set _ (by rw [List.length_set, List.length_replicate]; omega), u8nat (by omega)]
    unfold szN
    rw [e, if_neg h]
    unfold Ex.n
    split
    · rfl
    · rfl
theorem exB_2 (x : Ex) (f : Nat) (hp : x.part < 65536) : fragB x.k (wat (exB x f) 2) = fragB x.k x.part := by
  have hn := x.n_ge
  by_cases h : x.k = 44
  · have e : wat (exB x f) 2 = x.part := by
      unfold wat exB
      rw [if_pos h, batN_other _ (by decide), batN_set _ (by rw [List.length_set, List.length_replicate]; omega), batN_set _ (by rw [List.length_set, List.length_set, List.length_replicate]; omega), u8nat (by omega), u8nat (by omega)]
      omega
    rw [e]
  · unfold fragB
    rw [show (x.k == 44) = false by simp [h]]
    rfl
/-- Extensions in a row, p behind the last one: what the first one's protocol is, and the bytes. -/
def laidF : List Ex → Nat → Nat × List UInt8
  | [], p => (p, [])
  | x :: l, p => (x.k, exB x (laidF l p).1 ++ (laidF l p).2)
theorem laid_lt (l : List Ex) {p : Nat} (h : p < 256) : (laidF l p).1 < 256 := by
  cases l with
  | nil => exact h
  | cons x l => exact kOf_lt _
/-- How many bytes they have. -/
def sumN : List Ex → Nat
  | [] => 0
  | x :: l => x.n + sumN l
theorem laid_len : ∀ (l : List Ex) (p : Nat), (laidF l p).2.length = sumN l
  | [], _ => rfl
  | x :: l, p => by
    show (exB x (laidF l p).1 ++ (laidF l p).2).length = x.n + sumN l
    rw [List.length_append, exB_len, laid_len l p]
theorem sumN_le : ∀ l : List Ex, sumN l ≤ 24 * l.length
  | [] => Nat.le_refl _
  | x :: l => by
    have := sumN_le l
    have := x.n_le
    show x.n + sumN l ≤ 24 * (l.length + 1)
    omega
theorem sumN_ge : ∀ l : List Ex, 8 * l.length ≤ sumN l
  | [] => Nat.le_refl _
  | x :: l => by
    have := sumN_ge l
    have := x.n_ge
    show 8 * (l.length + 1) ≤ x.n + sumN l
    omega
theorem sumN_append : ∀ l m : List Ex, sumN (l ++ m) = sumN l + sumN m
  | [], m => by simp [sumN]
  | x :: l, m => by
    show x.n + sumN (l ++ m) = x.n + sumN l + sumN m
    rw [sumN_append l m]; omega
theorem laid_append : ∀ (l m : List Ex) (p : Nat), laidF (l ++ m) p = ((laidF l (laidF m p).1).1, (laidF l (laidF m p).1).2 ++ (laidF m p).2)
  | [], _, _ => rfl
  | x :: l, m, p => by
    show (x.k, exB x (laidF (l ++ m) p).1 ++ (laidF (l ++ m) p).2) = (x.k, (exB x (laidF l (laidF m p).1).1 ++ (laidF l (laidF m p).1).2) ++ (laidF m p).2)
    rw [laid_append l m p, List.append_assoc]
/-- One extension that is none of a fragment is gone through. -/
theorem step_ex {xs rest : List UInt8} {T p e f : Nat} {x : Ex} (hd : xs.drop p = exB x f ++ rest) (hT : p + x.n ≤ T) (he : e < 8) (hf : f < 256) (hp : x.part < 65536) :
    stepF xs T ⟨p, e, x.k, false⟩ = 0 ∧ stepK xs ⟨p, e, x.k, false⟩ = ⟨p + x.n, e + 1, f, fragB x.k x.part⟩ := by
  have hn := x.n_ge
  have hb : ∀ i, i < 8 → batN xs (p + i) = batN (exB x f) i := fun i hi => batN_at hd (by rw [exB_len]; omega)
  have h1 : szN x.k (batN xs (p + 1)) = x.n := by rw [hb 1 (by omega), exB_1]
  have h0 : batN xs p = f := by have := hb 0 (by omega); rw [Nat.add_zero] at this; rw [this, exB_0 x hf]
  have h2 : fragB x.k (wat xs (p + 2)) = fragB x.k x.part := by
    rw [show wat xs (p + 2) = wat (exB x f) 2 by unfold wat; rw [hb 2 (by omega), show p + 2 + 1 = p + 3 by omega, hb 3 (by omega)], exB_2 x f hp]
  refine ⟨step_ok (by show e ≠ 8; omega) (by show szN x.k (batN xs (p + 1)) ≤ T - p; rw [h1]; omega), ?_⟩
  unfold stepK
  rw [h1, h0, h2]
theorem go_ex (p e : Nat) (x : Ex) : goB ⟨p, e, x.k, false⟩ = true := by
  unfold goB
  show (extB x.k && !false) = true
  rw [x.k_ext]; rfl
/-- Extensions in a row, none of a fragment, are gone through. -/
theorem walk_laid {xs rest : List UInt8} {T : Nat} : ∀ (l : List Ex) (p e : Nat) (q : Nat), xs.drop p = (laidF l q).2 ++ rest → p + sumN l ≤ T → e + l.length ≤ 8 → q < 256 → (∀ x ∈ l, x.part < 65536 ∧ fragB x.k x.part = false) →
    walkOf xs T ⟨p, e, (laidF l q).1, false⟩ = walkOf xs T ⟨p + sumN l, e + l.length, q, false⟩
  | [], p, e, q, _, _, _, _, _ => rfl
  | x :: l, p, e, q, hd, hT, he, hq, hx => by
    have hd' : xs.drop p = exB x (laidF l q).1 ++ ((laidF l q).2 ++ rest) := by rw [hd]; show (exB x (laidF l q).1 ++ (laidF l q).2) ++ rest = _; rw [List.append_assoc]
    have hT' : p + (x.n + sumN l) ≤ T := hT
    have he' : e + (l.length + 1) ≤ 8 := he
    obtain ⟨hp, hf⟩ := hx x (List.mem_cons_self ..)
    obtain ⟨h0, hk⟩ := step_ex (T := T) (e := e) hd' (by omega) (by omega) (laid_lt l hq) hp
    rw [hf] at hk
    show walkOf xs T ⟨p, e, x.k, false⟩ = _
    rw [walk_step (go_ex p e x) (by show e ≤ 8; omega) h0, hk]
    have hd2 : xs.drop (p + x.n) = (laidF l q).2 ++ rest := by
      rw [← List.drop_drop, hd', List.drop_append_of_le_length (by rw [exB_len]; exact Nat.le_refl _), List.drop_of_length_le (by rw [exB_len]; exact Nat.le_refl _), List.nil_append]
    rw [walk_laid l (p + x.n) (e + 1) q hd2 (by omega) (by omega) hq (fun y hy => hx y (List.mem_cons_of_mem _ hy))]
    congr 2
    · show p + x.n + sumN l = p + (x.n + sumN l); omega
    · show e + 1 + l.length = e + (l.length + 1); omega
/-- A packet with extensions, and what it carries. -/
def wholeB (f : Fr) (l : List Ex) (load : List UInt8) : List UInt8 :=
  hdr (sumN l + load.length) (laidF l f.proto.toNat).1 f.hop.toNat f.s.b f.d.b ++ ((laidF l f.proto.toNat).2 ++ load)
theorem whole_len {f : Fr} (h : f.Ok) (l : List Ex) (load : List UInt8) : (wholeB f l load).length = 40 + (sumN l + load.length) := by
  unfold wholeB
  rw [List.length_append, hdr_len _ _ _ _ _ h.s h.d, List.length_append, laid_len]
/-- What begins with such a packet: how its reading begins. -/
theorem whole_parts {f : Fr} (h : f.Ok) (hr : rightB f = true) (l : List Ex) (load more : List UInt8) (hN : sumN l + load.length < 65536) :
    faultN (wholeB f l load ++ more) = 0 ∧ totN (wholeB f l load ++ more) = 40 + (sumN l + load.length) ∧ wk0 (wholeB f l load ++ more) = ⟨40, 0, (laidF l f.proto.toNat).1, false⟩ ∧
      (wholeB f l load ++ more).drop 40 = (laidF l f.proto.toNat).2 ++ (load ++ more) ∧ ∀ k, hdAt (wholeB f l load ++ more) k = ⟨(k.head : Nat), ((40 + (sumN l + load.length) : Nat) : Int), f.hop, k.frag, (k.exts : Nat), (k.proto : Nat), f.s, f.d⟩ := by
  have g := right_good hr
  have hH : f.hop.toNat < 256 := by have := g.o0; have := g.o1; omega
  have hP : f.proto.toNat < 256 := by have := g.p0; have := g.p1; omega
  have hl := laid_len l f.proto.toNat
  have hlt := laid_lt l hP
  have es : f.s = ⟨true, f.s.b⟩ := by have := g.s; obtain ⟨a, b, c, d, e, f', ⟨s6, sb⟩, d'⟩ := f; simp only at *; rw [this]
  have ed : f.d = ⟨true, f.d.b⟩ := by have := g.d; obtain ⟨a, b, c, d, e, f', s', ⟨d6, db⟩⟩ := f; simp only at *; rw [this]
  unfold wholeB
  rw [List.append_assoc, List.append_assoc]
  generalize laidF l f.proto.toNat = lf at *
  refine ⟨hdr_fault _ _ _ _ _ _ hN h.s h.d (by rw [List.length_append, List.length_append]; omega), hdr_tot _ _ _ _ _ _ hN, hdr_wk0 _ _ _ _ _ _ hlt, hdr_rest _ _ _ _ _ _ h.s h.d, fun k => ?_⟩
  rw [hdr_at _ _ _ _ _ _ hN hH h.s h.d, ← es, ← ed, show ((f.hop.toNat : Nat) : Int) = f.hop by have := g.o0; omega]
/-- A packet with extensions, none of a fragment, is read as it was. -/
theorem whole_back {f : Fr} (h : f.Ok) (hr : rightB f = true) (l : List Ex) (load more : List UInt8) (hN : sumN l + load.length < 65536) (hl : l.length ≤ 8) (hx : ∀ x ∈ l, x.part < 65536 ∧ fragB x.k x.part = false) :
    rdN (wholeB f l load ++ more) = 0 ∧ rdF (wholeB f l load ++ more) = ⟨((40 + sumN l : Nat) : Int), ((40 + (sumN l + load.length) : Nat) : Int), f.hop, false, (l.length : Nat), f.proto, f.s, f.d⟩ := by
  have g := right_good hr
  have hP : f.proto.toNat < 256 := by have := g.p0; have := g.p1; omega
  have hpe : ((f.proto.toNat : Nat) : Int) = f.proto := by have := g.p0; omega
  obtain ⟨h0, ht, hw, hd, hat⟩ := whole_parts h hr l load more hN
  have hxp : extB f.proto.toNat = false := by rw [← extI_nat, hpe]; exact g.ext
  have hwk : walkOf (wholeB f l load ++ more) (totN (wholeB f l load ++ more)) (wk0 (wholeB f l load ++ more)) = (0, ⟨40 + sumN l, 0 + l.length, f.proto.toNat, false⟩) := by
    rw [hw, walk_laid l 40 0 f.proto.toNat hd (by rw [ht]; omega) (by omega) hP hx]
    exact walk_end (by unfold goB; rw [hxp]; rfl)
  have hn : rdN (wholeB f l load ++ more) = 0 := by rw [rdN_walk h0, hwk]
  refine ⟨hn, ?_⟩
  rw [rdF_yes hn, hwk, hat]
  simp only [hpe, Nat.zero_add]
/-- Behind extensions one of a fragment ends them. -/
theorem whole_frag {f : Fr} (h : f.Ok) (hr : rightB f = true) (l : List Ex) (load : List UInt8) (part nx : Nat) (hl : l.length ≤ 7) (hx : ∀ x ∈ l, x.part < 65536 ∧ fragB x.k x.part = false) (hN : sumN (l ++ [⟨4, 0, part⟩]) + load.length < 65536)
    (hp : part < 65536) (hf : part / 8 ≠ 0 ∨ part % 2 ≠ 0) (hn : nx < 256) :
    ∃ F : Fr, rdN ((wholeB f (l ++ [⟨4, 0, part⟩]) load).set (40 + sumN l) (UInt8.ofNat nx)) = 0 ∧ rdF ((wholeB f (l ++ [⟨4, 0, part⟩]) load).set (40 + sumN l) (UInt8.ofNat nx)) = F ∧ F.Ok ∧ F.frag = true ∧ F.head = ((40 + sumN l + 8 : Nat) : Int) ∧ F.exts = ((l.length + 1 : Nat) : Int) ∧ F.proto = (nx : Int) ∧
      F.total = ((40 + (sumN (l ++ [⟨4, 0, part⟩]) + load.length) : Nat) : Int) := by
  obtain ⟨x, hxe⟩ : ∃ x : Ex, (⟨4, 0, part⟩ : Ex) = x := ⟨_, rfl⟩
  have xk : x.k = 44 := by rw [← hxe]; rfl
  have xn : x.n = 8 := by rw [← hxe]; rfl
  have xp : x.part = part := by rw [← hxe]
  rw [hxe] at hN ⊢
  have hs : sumN (l ++ [x]) = sumN l + 8 := by rw [sumN_append]; show sumN l + (x.n + 0) = _; rw [xn]
  have g := right_good hr
  have hP : f.proto.toNat < 256 := by have := g.p0; have := g.p1; omega
  obtain ⟨h0, ht, hw, hd, hat⟩ := whole_parts h hr (l ++ [x]) load [] hN
  have hlen := whole_len h (l ++ [x]) load
  rw [List.append_nil] at h0 ht hw hd hat
  rw [List.append_nil, laid_append] at hd
  rw [laid_append] at hw
  have hl1 : (laidF [x] f.proto.toNat).1 = 44 := xk
  have hl2 : (laidF [x] f.proto.toNat).2 = exB x f.proto.toNat := by show exB x f.proto.toNat ++ [] = _; rw [List.append_nil]
  rw [hl1] at hw hd
  rw [hl2] at hd
  simp only at hw hd
  have hll := laid_len l 44
  obtain ⟨ys, hys⟩ : ∃ ys, (wholeB f (l ++ [x]) load).set (40 + sumN l) (UInt8.ofNat nx) = ys := ⟨_, rfl⟩
  rw [hys]
  generalize wholeB f (l ++ [x]) load = zs at *
  have hb : ∀ i, i < 40 → batN ys i = batN zs i := fun i hi => by rw [← hys, batN_other _ (by omega)]
  have hw4 : wat ys 4 = wat zs 4 := by unfold wat; rw [hb 4 (by omega), hb 5 (by omega)]
  have hyl : ys.length = zs.length := by rw [← hys, List.length_set]
  have ht' : totN ys = 40 + (sumN (l ++ [x]) + load.length) := by rw [← ht]; unfold totN; rw [hw4]
  obtain ⟨z1, z2, z3⟩ := fault_zero h0
  have h0' : faultN ys = 0 := fault_no (by rw [hyl]; exact z1) (by rw [hb 0 (by omega)]; exact z2) (by rw [hyl]; unfold totN at z3 ⊢; rw [hw4]; exact z3)
  have hw' : wk0 ys = ⟨40, 0, (laidF l 44).1, false⟩ := by rw [← hw]; unfold wk0; rw [hb 6 (by omega)]
  have hset : exB x nx = (exB x f.proto.toNat).set 0 (UInt8.ofNat nx) := by
    unfold exB
    rw [if_pos xk, if_pos xk, xn]
    rfl
  have hd' : ys.drop 40 = (laidF l 44).2 ++ (exB x nx ++ load) := by
    rw [← hys, List.drop_set, if_neg (by omega), hd, show 40 + sumN l - 40 = sumN l by omega, List.append_assoc, List.set_append_right _ _ (by omega), hll, Nat.sub_self, List.set_append_left _ _ (by rw [exB_len, xn]; omega), hset]
  have hwk : walkOf ys (totN ys) (wk0 ys) = (0, ⟨40 + sumN l + 8, l.length + 1, nx, true⟩) := by
    rw [hw', walk_laid l 40 0 44 hd' (by rw [ht']; omega) (by omega) (by decide) hx]
    have hd2 : ys.drop (40 + sumN l) = exB x nx ++ load := by
      rw [← List.drop_drop, hd', List.drop_append_of_le_length (by omega), List.drop_of_length_le (by omega), List.nil_append]
    obtain ⟨s0, sk⟩ := step_ex (T := totN ys) (e := 0 + l.length) hd2 (by rw [ht', xn]; omega) (by omega) hn (by rw [xp]; exact hp)
    have hgo := go_ex (40 + sumN l) (0 + l.length) x
    rw [xk] at s0 sk hgo
    rw [walk_step hgo (by show 0 + l.length ≤ 8; omega) s0, sk, xn, xp, show fragB 44 part = true by simp [fragB]; omega, Nat.zero_add]
    exact walk_end (by unfold goB; simp)
  have hrn : rdN ys = 0 := by rw [rdN_walk h0', hwk]
  refine ⟨_, hrn, rfl, rdF_ok ys, ?_⟩
  rw [rdF_yes hrn, hwk]
  exact ⟨rfl, rfl, rfl, rfl, by rw [← ht']; rfl⟩
/-- The ninth extension is refused. -/
theorem whole_nine {f : Fr} (h : f.Ok) (hr : rightB f = true) (l : List Ex) (y : Ex) (hl : l.length = 8) (hx : ∀ x ∈ l, x.part < 65536 ∧ fragB x.k x.part = false) : rdN (wholeB f (l ++ [y]) []) = 4 := by
  have hle := sumN_le (l ++ [y])
  have hs : sumN (l ++ [y]) = sumN l + y.n := by rw [sumN_append]; rfl
  rw [List.length_append, hl] at hle
  have hN : sumN (l ++ [y]) + ([] : List UInt8).length < 65536 := by simp at hle ⊢; omega
  obtain ⟨h0, ht, hw, hd, _⟩ := whole_parts h hr (l ++ [y]) [] [] hN
  rw [List.append_nil] at h0 ht hw hd
  rw [List.append_nil, List.append_nil, laid_append] at hd
  rw [laid_append] at hw
  have hl1 : (laidF [y] f.proto.toNat).1 = y.k := rfl
  rw [hl1] at hw hd
  simp only at hw hd
  rw [rdN_walk h0, hw, walk_laid l 40 0 y.k hd (by rw [ht]; omega) (by omega) (kOf_lt _) hx]
  rw [walk_bad (go_ex _ _ y) (by show 0 + l.length ≤ 8; omega) (by rw [step_four (by show 0 + l.length = 8; omega)]; decide), step_four (by show 0 + l.length = 8; omega)]
/-- The last extension loses its last bytes: it ends too early. -/
theorem whole_short {f : Fr} (h : f.Ok) (hr : rightB f = true) (l : List Ex) (y : Ex) (hl : l.length = 7) (hx : ∀ x ∈ l, x.part < 65536 ∧ fragB x.k x.part = false) (n : Nat) (h1 : sumN l ≤ n) (h2 : n < sumN (l ++ [y])) :
    rdN (((wholeB f (l ++ [y]) []).set 4 (UInt8.ofNat (n / 256))).set 5 (UInt8.ofNat (n % 256))) = 2 := by
  have hle := sumN_le (l ++ [y])
  have hs : sumN (l ++ [y]) = sumN l + y.n := by rw [sumN_append]; rfl
  rw [List.length_append, hl] at hle
  have g := right_good hr
  have hlen := whole_len h (l ++ [y]) []
  have he : ((wholeB f (l ++ [y]) []).set 4 (UInt8.ofNat (n / 256))).set 5 (UInt8.ofNat (n % 256)) = hdr n (laidF (l ++ [y]) f.proto.toNat).1 f.hop.toNat f.s.b f.d.b ++ (laidF (l ++ [y]) f.proto.toNat).2 := by
    unfold wholeB
    rw [List.append_nil]
    rfl
  rw [he]
  have hn : n < 65536 := by simp at hle; omega
  have hP : f.proto.toNat < 256 := by have := g.p0; have := g.p1; omega
  have hll := laid_len (l ++ [y]) f.proto.toNat
  have hlt := laid_lt (l ++ [y]) hP
  have h0 := hdr_fault n (laidF (l ++ [y]) f.proto.toNat).1 f.hop.toNat f.s.b f.d.b (laidF (l ++ [y]) f.proto.toNat).2 hn h.s h.d (by omega)
  have ht := hdr_tot n (laidF (l ++ [y]) f.proto.toNat).1 f.hop.toNat f.s.b f.d.b (laidF (l ++ [y]) f.proto.toNat).2 hn
  have hw := hdr_wk0 n (laidF (l ++ [y]) f.proto.toNat).1 f.hop.toNat f.s.b f.d.b (laidF (l ++ [y]) f.proto.toNat).2 hlt
  have hd := hdr_rest n (laidF (l ++ [y]) f.proto.toNat).1 f.hop.toNat f.s.b f.d.b (laidF (l ++ [y]) f.proto.toNat).2 h.s h.d
  generalize hdr n (laidF (l ++ [y]) f.proto.toNat).1 f.hop.toNat f.s.b f.d.b ++ (laidF (l ++ [y]) f.proto.toNat).2 = zs at *
  rw [laid_append] at hd hw
  have hl1 : (laidF [y] f.proto.toNat).1 = y.k := rfl
  have hl2 : (laidF [y] f.proto.toNat).2 = exB y f.proto.toNat := by show exB y f.proto.toNat ++ [] = _; rw [List.append_nil]
  rw [hl1] at hw hd
  rw [hl2] at hd
  simp only at hw hd
  rw [rdN_walk h0, hw, walk_laid l 40 0 y.k hd (by rw [ht]; omega) (by omega) (kOf_lt _) hx]
  have hd2 : zs.drop (40 + sumN l) = exB y f.proto.toNat ++ [] := by
    rw [← List.drop_drop, hd, List.drop_append_of_le_length (by rw [laid_len]; omega), List.drop_of_length_le (by rw [laid_len]; omega), List.nil_append, List.append_nil]
  have hb1 : szN y.k (batN zs (40 + sumN l + 1)) = y.n := by rw [batN_at hd2 (by rw [exB_len]; have := y.n_ge; omega), exB_1]
  have hsl : stepF zs (totN zs) ⟨40 + sumN l, 0 + l.length, y.k, false⟩ = 2 := step_less (by show 0 + l.length ≠ 8; omega) (by show totN zs - (40 + sumN l) < szN y.k (batN zs (40 + sumN l + 1)); rw [hb1, ht]; omega)
  rw [walk_bad (go_ex _ _ y) (by show 0 + l.length ≤ 8; omega) (by rw [hsl]; decide), hsl]
end Go.Proofs.Ythicbdjambmnpaa
