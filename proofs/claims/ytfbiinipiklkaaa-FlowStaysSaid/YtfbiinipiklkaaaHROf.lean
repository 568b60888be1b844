/-
  Plain mathematics of stage 15: words, turned; rounds; the words of bytes; the hash; a tuple's bytes. No program is walked here.
  Words turned: the document's turn, and bits.RotateLeft64, at each of the five numbers of places; rounds of the document.
  The document's round.
  The document's Get (stage 1's), alone: for a seat without the document's Put.
  The document's Words.
  The document's Of.
-/
import Derived.Test.YtfbiinipiklkaaaKCell
import Derived.Test.YtfbiinipiklkaaaGSl
import Derived.Laws.BitsAllLaws
import Derived.Laws.ResultCell
import Derived.Test.YtfbiinipiklkaaaQB
import Derived.Test.YtfbiinipiklkaaaGBlk
import Derived.Deep.RegionHeld3
namespace Go.Proofs.Ytfbiinipiklkaaa
open Go.RowKit Go.Lib
theorem m64_pow : (18446744073709551616 : Nat) = 2 ^ 64 := rfl
/-- A word, turned by k places. -/
def rotW (n k : Nat) : Nat := n * 2 ^ k % 18446744073709551616 ||| n / 2 ^ (64 - k)
theorem rotW_lt {n : Nat} (hn : n < 18446744073709551616) (k : Nat) : rotW n k < 18446744073709551616 := by
  rw [m64_pow]
  exact Nat.or_lt_two_pow (Nat.mod_lt _ (by decide)) (Nat.lt_of_le_of_lt (Nat.div_le_self _ _) (by rw [← m64_pow]; exact hn))
def addW (a b : Nat) : Nat := (a + b) % 18446744073709551616
theorem addW_lt (a b : Nat) : addW a b < 18446744073709551616 := Nat.mod_lt _ (by decide)
theorem xorW_lt {a b : Nat} (ha : a < 18446744073709551616) (hb : b < 18446744073709551616) : a ^^^ b < 18446744073709551616 := by
  rw [m64_pow]
  exact Nat.xor_lt_two_pow (by rw [← m64_pow]; exact ha) (by rw [← m64_pow]; exact hb)
/-- Four words. -/
structure V4 where
  a : Nat
  b : Nat
  c : Nat
  d : Nat
structure V4.Ok (v : V4) : Prop where
  a : v.a < 18446744073709551616
  b : v.b < 18446744073709551616
  c : v.c < 18446744073709551616
  d : v.d < 18446744073709551616
/-- A round. -/
def rnd (v : V4) : V4 :=
  let a1 := addW v.a v.b
  let b1 := rotW v.b 13 ^^^ a1
  let a2 := rotW a1 32
  let c1 := addW v.c v.d
  let d1 := rotW v.d 16 ^^^ c1
  let a3 := addW a2 d1
  let d2 := rotW d1 21 ^^^ a3
  let c2 := addW c1 b1
  let b2 := rotW b1 17 ^^^ c2
  let c3 := rotW c2 32
  ⟨a3, b2, c3, d2⟩
theorem rnd_ok {v : V4} (h : v.Ok) : (rnd v).Ok := by
  have ha1 := addW_lt v.a v.b
  have hb1 := xorW_lt (rotW_lt h.b 13) ha1
  have ha2 := rotW_lt ha1 32
  have hc1 := addW_lt v.c v.d
  have hd1 := xorW_lt (rotW_lt h.d 16) hc1
  have ha3 := addW_lt (rotW (addW v.a v.b) 32) (rotW v.d 16 ^^^ addW v.c v.d)
  have hc2 := addW_lt (addW v.c v.d) (rotW v.b 13 ^^^ addW v.a v.b)
  exact ⟨ha3, xorW_lt (rotW_lt hb1 17) hc2, rotW_lt hc2 32, xorW_lt (rotW_lt hd1 21) ha3⟩
/-- So many rounds. -/
def rnds (n : Nat) (v : V4) : V4 := Nat.repeat rnd n v
theorem rep_succ {α : Type} (f : α → α) (n : Nat) (v : α) : Nat.repeat f (n + 1) v = f (Nat.repeat f n v) := rfl
theorem rep_zero {α : Type} (f : α → α) (v : α) : Nat.repeat f 0 v = v := rfl
theorem rnds_succ (n : Nat) (v : V4) : rnds (n + 1) v = rnd (rnds n v) := rep_succ rnd n v
theorem rnds_zero (v : V4) : rnds 0 v = v := rep_zero rnd v
theorem rnds_ok (n : Nat) {v : V4} (h : v.Ok) : (rnds n v).Ok := by
  induction n with
  | zero => rw [rnds_zero]; exact h
  | succ n ih => rw [rnds_succ]; exact rnd_ok ih
def xorD (v : V4) (m : Nat) : V4 := ⟨v.a, v.b, v.c, v.d ^^^ m⟩
def xorA (v : V4) (m : Nat) : V4 := ⟨v.a ^^^ m, v.b, v.c, v.d⟩
def xorC (v : V4) (m : Nat) : V4 := ⟨v.a, v.b, v.c ^^^ m, v.d⟩
theorem xorD_ok {v : V4} (h : v.Ok) {m : Nat} (hm : m < 18446744073709551616) : (xorD v m).Ok := ⟨h.a, h.b, h.c, xorW_lt h.d hm⟩
theorem xorA_ok {v : V4} (h : v.Ok) {m : Nat} (hm : m < 18446744073709551616) : (xorA v m).Ok := ⟨xorW_lt h.a hm, h.b, h.c, h.d⟩
theorem xorC_ok {v : V4} (h : v.Ok) {m : Nat} (hm : m < 18446744073709551616) : (xorC v m).Ok := ⟨h.a, h.b, xorW_lt h.c hm, h.d⟩
/-- A word more. -/
def takeV (v : V4) (m : Nat) : V4 := xorA (rnds 2 (xorD v m)) m
theorem takeV_ok {v : V4} (h : v.Ok) {m : Nat} (hm : m < 18446744073709551616) : (takeV v m).Ok := xorA_ok (rnds_ok 2 (xorD_ok h hm)) hm
/-- All of the words f 0 .. f (n - 1). -/
def foldK {α β : Type} (t : α → β → α) (f : Nat → β) (v : α) : Nat → α
  | 0 => v
  | n + 1 => t (foldK t f v n) (f n)
theorem foldK_succ {α β : Type} (t : α → β → α) (f : Nat → β) (v : α) (n : Nat) : foldK t f v (n + 1) = t (foldK t f v n) (f n) := rfl
theorem foldK_zero {α β : Type} (t : α → β → α) (f : Nat → β) (v : α) : foldK t f v 0 = v := rfl
def stK (f : Nat → Nat) (v : V4) (n : Nat) : V4 := foldK takeV f v n
theorem stK_zero (f : Nat → Nat) (v : V4) : stK f v 0 = v := foldK_zero takeV f v
theorem stK_succ (f : Nat → Nat) (v : V4) (n : Nat) : stK f v (n + 1) = takeV (stK f v n) (f n) := foldK_succ takeV f v n
theorem stK_ok {f : Nat → Nat} (hf : ∀ i, f i < 18446744073709551616) {v : V4} (h : v.Ok) (n : Nat) : (stK f v n).Ok := by
  induction n with
  | zero => rw [stK_zero]; exact h
  | succ n ih => rw [stK_succ]; exact takeV_ok ih (hf n)
def finV (v : V4) : Nat := (rnds 4 (xorC v 255)).a ^^^ (rnds 4 (xorC v 255)).b ^^^ (rnds 4 (xorC v 255)).c ^^^ (rnds 4 (xorC v 255)).d
/-- The number of bytes, the lowest first. -/
def leN (xs : List UInt8) : Nat := num xs.reverse
theorem leN_lt (xs : List UInt8) (h : xs.length ≤ 8) : leN xs < 18446744073709551616 := num_lt64 _ (by rw [List.length_reverse]; exact h)
theorem get_leN {xs : List UInt8} (h : xs.length ≤ 8) : getOf xs false = leN xs := by
  unfold getOf leN
  rw [if_neg (by decide), List.take_of_length_le h]
def begV (key : List UInt8) : V4 := ⟨leN (key.take 8) ^^^ 8317987319222330741, leN (key.drop 8) ^^^ 7237128888997146477, leN (key.take 8) ^^^ 7816392313619706465, leN (key.drop 8) ^^^ 8387220255154660723⟩
theorem begV_ok {key : List UInt8} (h : key.length = 16) : (begV key).Ok := by
  have h1 := leN_lt (key.take 8) (by rw [List.length_take]; omega)
  have h2 := leN_lt (key.drop 8) (by rw [List.length_drop]; omega)
  exact ⟨xorW_lt h1 (by decide), xorW_lt h2 (by decide), xorW_lt h1 (by decide), xorW_lt h2 (by decide)⟩
/-- The i-th word of bytes. -/
def lastW (bs : List UInt8) : Nat := leN (bs.drop (8 * (bs.length / 8))) + bs.length % 256 * 72057594037927936
def wordW (bs : List UInt8) (i : Nat) : Nat := if i < bs.length / 8 then leN ((bs.drop (8 * i)).take 8) else lastW bs
theorem leN_small (xs : List UInt8) (h : xs.length ≤ 7) : leN xs < 72057594037927936 := by
  have := num_lt xs.reverse
  rw [List.length_reverse] at this
  exact Nat.lt_of_lt_of_le this (Nat.pow_le_pow_right (n := 256) (by decide) h)
theorem lastW_lt (bs : List UInt8) : lastW bs < 18446744073709551616 := by
  have h1 := leN_small (bs.drop (8 * (bs.length / 8))) (by rw [List.length_drop]; omega)
  have h2 : bs.length % 256 < 256 := Nat.mod_lt _ (by decide)
  unfold lastW
  omega
theorem wordW_lt (bs : List UInt8) (i : Nat) : wordW bs i < 18446744073709551616 := by
  unfold wordW
  split
  · exact leN_lt _ (by rw [List.length_take]; omega)
  · exact lastW_lt bs
/-- SipHash-2-4. -/
def hashW (key bs : List UInt8) : Nat := finV (stK (wordW bs) (begV key) (bs.length / 8 + 1))
/-- Two bytes of a number, big. -/
def bePW (n : Int) : List UInt8 := [UInt8.ofNat (n.toNat / 256), UInt8.ofNat (n.toNat % 256)]
/-- A tuple's bytes. -/
def tuB (t : Tu) : List UInt8 := (if t.s.six then 6 else 4) :: (t.s.b ++ (t.d.b ++ (UInt8.ofNat t.pr.toNat :: (bePW t.sp ++ bePW t.dp))))
/-- May a tuple be? -/
structure Tu.Fit (t : Tu) : Prop where
  fam : t.s.six = t.d.six
  pr : 0 ≤ t.pr ∧ t.pr ≤ 255
  sp : 0 ≤ t.sp ∧ t.sp ≤ 65535
  dp : 0 ≤ t.dp ∧ t.dp ≤ 65535
theorem tuB_len {t : Tu} (h : t.Ok) : (tuB t).length = 38 := by
  have h1 := h.s
  have h2 := h.d
  unfold tuB
  rw [List.length_cons, List.length_append, List.length_append, List.length_cons]
  simp [bePW, h1, h2]
theorem ofNat_inj {a b : Nat} (ha : a < 256) (hb : b < 256) (h : UInt8.ofNat a = UInt8.ofNat b) : a = b := by
  have := congrArg UInt8.toNat h
  rw [UInt8.toNat_ofNat', UInt8.toNat_ofNat'] at this
  omega
/-- Unlike tuples have unlike bytes. -/
theorem tuB_inj {t u : Tu} (ht : t.Ok) (hu : u.Ok) (ft : t.Fit) (fu : u.Fit) (h : tuB t = tuB u) : t = u := by
  unfold tuB at h
  obtain ⟨h0, h1⟩ := List.cons.inj h
  obtain ⟨h2, h3⟩ := List.append_inj h1 (by rw [ht.s, hu.s])
  obtain ⟨h4, h5⟩ := List.append_inj h3 (by rw [ht.d, hu.d])
  obtain ⟨h6, h7⟩ := List.cons.inj h5
  obtain ⟨h8, h9⟩ := List.append_inj h7 rfl
  have e1 := (List.cons.inj h8).1
  have e2 := (List.cons.inj (List.cons.inj h8).2).1
  have e3 := (List.cons.inj h9).1
  have e4 := (List.cons.inj (List.cons.inj h9).2).1
  obtain ⟨f1, ⟨p1, p2⟩, ⟨s1, s2⟩, ⟨d1, d2⟩⟩ := ft
  obtain ⟨g1, ⟨q1, q2⟩, ⟨r1, r2⟩, ⟨c1, c2⟩⟩ := fu
  have k1 := ofNat_inj (by omega) (by omega) h6
  have k2 := ofNat_inj (by omega) (by omega) e1
  have k3 := ofNat_inj (by omega) (by omega) e2
  have k4 := ofNat_inj (by omega) (by omega) e3
  have k5 := ofNat_inj (by omega) (by omega) e4
  obtain ⟨⟨x1, ab⟩, ⟨x2, bb⟩, p, s, d⟩ := t
  obtain ⟨⟨y1, ab'⟩, ⟨y2, bb'⟩, p', s', d'⟩ := u
  simp only at h0 h2 h4 f1 g1 k1 k2 k3 k4 k5 p1 p2 s1 s2 d1 d2 q1 q2 r1 r2 c1 c2
  have hs : x1 = y1 := by
    cases x1 <;> cases y1 <;> first | rfl | (exfalso; simp at h0; exact absurd h0 (by decide)) | (exfalso; simp at h0)
  subst hs h2 h4
  subst f1
  subst g1
  obtain rfl : p = p' := by omega
  obtain rfl : s = s' := by omega
  obtain rfl : d = d' := by omega
  rfl
end Go.Proofs.Ytfbiinipiklkaaa
namespace Go.Proofs.Ytfbiinipiklkaaa
set_option maxRecDepth 100000
open Go.RowKit Go.Lib
theorem wrap64_nat (n : Nat) : IntKind.u64.wrap (n : Int) = ((n % 18446744073709551616 : Nat) : Int) := by
  show (n : Int) % 18446744073709551616 = _
  omega
theorem or64_rot {n a b : Nat} (hn : n < 18446744073709551616) (k : Nat) (ha : 2 ^ k = a) (hb : 2 ^ (64 - k) = b) : bits .or .u64 (IntKind.u64.wrap ((n : Int) * (a : Int))) ((n : Int) / (b : Int)) = ((rotW n k : Nat) : Int) := by
  subst ha hb
  have h1 : (n : Int) * ((2 ^ k : Nat) : Int) = ((n * 2 ^ k : Nat) : Int) := by rw [Int.natCast_mul]
  have h2 : (n : Int) / ((2 ^ (64 - k) : Nat) : Int) = ((n / 2 ^ (64 - k) : Nat) : Int) := by rw [Int.natCast_ediv]
  rw [h1, h2, wrap64_nat, u64_or_nat _ _ (Nat.mod_lt _ (by decide)) (Nat.lt_of_le_of_lt (Nat.div_le_self _ _) hn)]
  rfl
theorem rot_13 {n : Nat} (hn : n < 18446744073709551616) : bits .or .u64 (IntKind.u64.wrap ((n : Int) * 8192)) ((n : Int) / 2251799813685248) = ((rotW n 13 : Nat) : Int) := or64_rot hn 13 rfl rfl
theorem rot_16 {n : Nat} (hn : n < 18446744073709551616) : bits .or .u64 (IntKind.u64.wrap ((n : Int) * 65536)) ((n : Int) / 281474976710656) = ((rotW n 16 : Nat) : Int) := or64_rot hn 16 rfl rfl
theorem rot_17 {n : Nat} (hn : n < 18446744073709551616) : bits .or .u64 (IntKind.u64.wrap ((n : Int) * 131072)) ((n : Int) / 140737488355328) = ((rotW n 17 : Nat) : Int) := or64_rot hn 17 rfl rfl
theorem rot_21 {n : Nat} (hn : n < 18446744073709551616) : bits .or .u64 (IntKind.u64.wrap ((n : Int) * 2097152)) ((n : Int) / 8796093022208) = ((rotW n 21 : Nat) : Int) := or64_rot hn 21 rfl rfl
theorem rot_32 {n : Nat} (hn : n < 18446744073709551616) : bits .or .u64 (IntKind.u64.wrap ((n : Int) * 4294967296)) ((n : Int) / 4294967296) = ((rotW n 32 : Nat) : Int) := or64_rot hn 32 rfl rfl
theorem xor64 {a b : Nat} (ha : a < 18446744073709551616) (hb : b < 18446744073709551616) : bits .xor .u64 (a : Int) (b : Int) = ((a ^^^ b : Nat) : Int) := u64_xor_nat a b ha hb
theorem add64 (a b : Nat) : IntKind.u64.wrap ((a : Int) + (b : Int)) = ((addW a b : Nat) : Int) := by
  rw [← Int.natCast_add, wrap64_nat]
  rfl
/-- Four words, as cells. -/
def v4L (v : V4) : List Value := [.int .u64 (v.a : Int), .int .u64 (v.b : Int), .int .u64 (v.c : Int), .int .u64 (v.d : Int)]
def v4C (v : V4) : Value := .agg (v4L v).toArray
end Go.Proofs.Ytfbiinipiklkaaa
namespace Go.Proofs.Ytfbiinipiklkaaa
set_option maxRecDepth 100000
open Go.RowKit Go.Lib
end Go.Proofs.Ytfbiinipiklkaaa
namespace Go.Proofs.Ytfbiinipiklkaaa
open Go.RowKit Go.Shelf
end Go.Proofs.Ytfbiinipiklkaaa
namespace Go.Proofs.Ytfbiinipiklkaaa
set_option maxRecDepth 100000
open Go.RowKit Go.Lib
end Go.Proofs.Ytfbiinipiklkaaa
namespace Go.Proofs.Ytfbiinipiklkaaa
set_option maxRecDepth 100000
open Go.RowKit Go.Lib
def keyC (key : List UInt8) : Value := .agg (key.map v8).toArray
theorem v4L_one (v : V4) : ∀ u ∈ v4L v, u.oneCell' = true := by
  intro u hu
  unfold v4L at hu
  simp only [List.mem_cons, List.not_mem_nil, or_false] at hu
  rcases hu with rfl | rfl | rfl | rfl <;> rfl
theorem key_take (key : List UInt8) {k : Nat} (h : k < key.length) : key.take (k + 1) = key.take k ++ [key[k]] := by
  rw [List.take_append_getElem h]
end Go.Proofs.Ytfbiinipiklkaaa
