/-
  Parts of packets and tuples, written anew; what the statements' laws share.
-/
import Derived.Test.YtkmcopenflakkaaNAwake
namespace Go.Proofs.Ytkmcopenflakkaa
set_option maxRecDepth 100000
open Go.RowKit Go.Lib

theorem pk_dst (k : Pk) : pkL k = (.int .i64 k.kind :: adL k.t.s) ++ (adL k.t.d ++ (tuE k.t ++ pkE k)) := by
  unfold pkL tuL
  rw [List.append_assoc, List.append_assoc, List.cons_append]
theorem pk_src (k : Pk) : pkL k = [.int .i64 k.kind] ++ (adL k.t.s ++ (adL k.t.d ++ (tuE k.t ++ pkE k))) := by
  unfold pkL tuL
  rw [List.append_assoc, List.append_assoc]
  rfl
theorem pk_end {k : Pk} (h : k.t.Ok) : ∃ P : List Value, P.length = 35 ∧ pkL k = P ++ (tuE k.t ++ pkE k) ∧ ∀ k' : Pk, k'.kind = k.kind → k'.t.s = k.t.s → k'.t.d = k.t.d → pkL k' = P ++ (tuE k'.t ++ pkE k') := by
  refine ⟨(.int .i64 k.kind :: adL k.t.s) ++ adL k.t.d, ?_, ?_, ?_⟩
  · rw [List.length_append, List.length_cons, adL_len h.s, adL_len h.d]
  · rw [pk_dst, List.append_assoc]
  · intro k' e1 e2 e3
    rw [pk_dst, e1, e2, e3, List.append_assoc]
theorem pk_i36 {k : Pk} (h : k.t.Ok) : (pkL k)[36]? = some (.int .i64 k.t.sp) := by
  obtain ⟨P, hP, e, _⟩ := pk_end h
  rw [e, List.getElem?_append_right (by omega), hP]
  rfl
theorem pk_i37 {k : Pk} (h : k.t.Ok) : (pkL k)[37]? = some (.int .i64 k.t.dp) := by
  obtain ⟨P, hP, e, _⟩ := pk_end h
  rw [e, List.getElem?_append_right (by omega), hP]
  rfl
theorem pk_s36 {k : Pk} (h : k.t.Ok) (m : Int) : (pkL k).set 36 (.int .i64 m) = pkL ⟨k.kind, ⟨k.t.s, k.t.d, k.t.pr, m, k.t.dp⟩, k.fl, k.net, k.sg, k.en⟩ := by
  obtain ⟨P, hP, e, f⟩ := pk_end h
  rw [f ⟨k.kind, ⟨k.t.s, k.t.d, k.t.pr, m, k.t.dp⟩, k.fl, k.net, k.sg, k.en⟩ rfl rfl rfl, e, List.set_append_right _ _ (by omega), hP]
  rfl
theorem pk_s37 {k : Pk} (h : k.t.Ok) (m : Int) : (pkL k).set 37 (.int .i64 m) = pkL ⟨k.kind, ⟨k.t.s, k.t.d, k.t.pr, k.t.sp, m⟩, k.fl, k.net, k.sg, k.en⟩ := by
  obtain ⟨P, hP, e, f⟩ := pk_end h
  rw [f ⟨k.kind, ⟨k.t.s, k.t.d, k.t.pr, k.t.sp, m⟩, k.fl, k.net, k.sg, k.en⟩ rfl rfl rfl, e, List.set_append_right _ _ (by omega), hP]
  rfl
theorem tu_split (t : Tu) : tuL t = adL t.s ++ (adL t.d ++ tuE t) := rfl
theorem tu_i35 {t : Tu} (h : t.Ok) : (tuL t)[35]? = some (.int .i64 t.sp) := (tuL_num h 1)
theorem tu_i36 {t : Tu} (h : t.Ok) : (tuL t)[36]? = some (.int .i64 t.dp) := (tuL_num h 2)
theorem tu_set {t : Tu} (h : t.Ok) (j : Nat) (v : Value) : (tuL t).set (34 + j) v = (adL t.s ++ adL t.d) ++ (tuE t).set j v := by
  have hl : (adL t.s ++ adL t.d).length = 34 := by rw [List.length_append, adL_len h.s, adL_len h.d]
  rw [tu_split, ← List.append_assoc, List.set_append_right _ _ (by omega), hl]
  congr 2
  omega
theorem tu_s35 {t : Tu} (h : t.Ok) (m : Int) : (tuL t).set 35 (.int .i64 m) = tuL ⟨t.s, t.d, t.pr, m, t.dp⟩ := by
  rw [tu_set h 1, tu_split, List.append_assoc]
  rfl
theorem tu_s36 {t : Tu} (h : t.Ok) (m : Int) : (tuL t).set 36 (.int .i64 m) = tuL ⟨t.s, t.d, t.pr, t.sp, m⟩ := by
  rw [tu_set h 2, tu_split, List.append_assoc]
  rfl
/-- What is rewritten may be rewritten, whatever is behind it. -/
theorem may_more {xs more : List UInt8} {a : Ad} {m : Int} (h : mayN (readK xs) a m = true) : mayN (readK (xs ++ more)) a m = true := by
  rw [(natL_more (mayN_yes h).1 a m true).2]
  exact h
/-- Of what may be rewritten: its length, and how it is read. -/
theorem nat_len {xs : List UInt8} {a : Ad} {m : Int} (h : mayN (readK xs) a m = true) (dst : Bool) : ((natL xs a m dst).length : Int) = (readK xs).en ∧ (natL xs a m dst).length ≤ xs.length ∧ 0 < (natL xs a m dst).length := by
  obtain ⟨z, six, n, p, u, hA⟩ := at_fine (mayN_yes h).1
  rw [hA.len, hA.en.1]
  have := hA.x
  have := hA.f.bnd.ok dst
  have q := this.k
  refine ⟨rfl, by omega, by omega⟩
theorem nat_read {xs : List UInt8} {a : Ad} (ha : a.b.length = 16) {m : Int} (h : mayN (readK xs) a m = true) (dst : Bool) : readK (natL xs a m dst) = pkN (readK xs) a m dst := by
  obtain ⟨z, six, n, p, u, hA⟩ := at_fine (mayN_yes h).1
  obtain ⟨ho, h0, h1⟩ := hA.may h
  obtain ⟨n', _, _, _, t4, _⟩ := hA.turn ha ho h0 h1 dst
  exact t4
theorem pkN_ok {k : Pk} (h : k.t.Ok) {a : Ad} (ha : a.b.length = 16) (m : Int) (dst : Bool) : (pkN k a m dst).t.Ok := tuN_ok h ha m dst
end Go.Proofs.Ytkmcopenflakkaa
