/-
  Plain mathematics of stage 21: flows, tables as lists of them, the oldest first. No program is walked here.
  Flows in cells: slices of them, one in a block; compared, loaded.
  Flows compared and loaded whole.
  Whole flows and keys loaded (split from FLLaw).
-/
import Derived.Test.YtfbiinipiklkaaaHEq
import Derived.Test.YtfbiinipiklkaaaNmB
import Derived.Test.YtfbiinipiklkaaaVEnc
import Derived.Test.YtfbiinipiklkaaaGBlk
import Derived.ChangeKeysEq
namespace Go.Proofs.Ytfbiinipiklkaaa
open Go.RowKit Go.Lib

/-- A flow. -/
structure Fw where
  k : Tu
  nm : List UInt8
  st : Int
  sn : Int
  no : Int
  ok : k.Ok
theorem tuQ_eq {t u : Tu} : tuQ t u = true ↔ t = u := by
  constructor
  · intro h
    rcases Classical.em (t = u) with e | e
    · exact e
    · rw [tuQ_ne e] at h
      cases h
  · rintro rfl
    exact tuQ_self t
theorem tuQ_comm (t u : Tu) : tuQ t u = tuQ u t := by
  rcases Classical.em (t = u) with rfl | e
  · rfl
  · rw [tuQ_ne e, tuQ_ne (fun h => e h.symm)]
theorem Fw.ext' {a b : Fw} (h1 : a.k = b.k) (h2 : a.nm = b.nm) (h3 : a.st = b.st) (h4 : a.sn = b.sn) (h5 : a.no = b.no) : a = b := by
  cases a
  cases b
  simp only at h1 h2 h3 h4 h5
  subst h1 h2 h3 h4 h5
  rfl
def zer16 : List UInt8 := [0, 0, 0, 0, 0, 0, 0, 0, 0, 0, 0, 0, 0, 0, 0, 0]
def fw0 : Fw := ⟨⟨⟨false, zer16⟩, ⟨false, zer16⟩, 0, 0, 0⟩, [], 0, 0, 0, ⟨rfl, rfl⟩⟩
/-- Are they alike? -/
def fwQ (a b : Fw) : Bool := tuQ a.k b.k && (a.nm == b.nm && (a.st == b.st && (a.sn == b.sn && (a.no == b.no && true))))
theorem fwQ_eq {a b : Fw} : fwQ a b = true ↔ a = b := by
  unfold fwQ
  constructor
  · intro h
    simp only [Bool.and_eq_true, beq_iff_eq, tuQ_eq, and_true] at h
    exact Fw.ext' h.1 h.2.1 h.2.2.1 h.2.2.2.1 h.2.2.2.2
  · rintro rfl
    simp [tuQ_self]
theorem fwQ_self (a : Fw) : fwQ a a = true := fwQ_eq.2 rfl
theorem fwQ_ne {a b : Fw} (h : a ≠ b) : fwQ a b = false := Bool.eq_false_iff.2 fun e => h (fwQ_eq.1 e)
/-- May a tuple be a flow's; is a flow right? -/
def inB' (z lo hi : Int) : Bool := decide (lo ≤ z) && decide (z ≤ hi)
def knownB (t : Tu) : Bool := famB t.s t.d && (inB' t.pr 0 255 && (inB' t.sp 0 65535 && inB' t.dp 0 65535))
def rightF (f : Fw) : Bool := knownB f.k && (nameB f.nm && (inB' f.st 1 5 && (inB' f.sn 0 1099511627776 && inB' f.no 0 1152921504606846976)))
theorem known_fit {t : Tu} (h : knownB t = true) : t.Fit := by
  unfold knownB inB' famB at h
  simp only [Bool.and_eq_true, beq_iff_eq, decide_eq_true_eq] at h
  exact ⟨h.1.1, h.2.1, h.2.2.1, h.2.2.2⟩
theorem right_fit {f : Fw} (h : rightF f = true) : f.k.Fit := by
  unfold rightF at h
  rw [Bool.and_eq_true] at h
  exact known_fit h.1
theorem right_no {f : Fw} (h : rightF f = true) : 0 ≤ f.no ∧ f.no ≤ 1152921504606846976 := by
  unfold rightF inB' at h
  simp only [Bool.and_eq_true, decide_eq_true_eq] at h
  exact h.2.2.2.2
/-- Is a older than b? -/
def olderF (a b : Fw) : Bool := if a.no = b.no then Op.bytesLess (tuB a.k) (tuB b.k) else decide (a.no < b.no)
theorem older_irr (a : Fw) : olderF a a = false := by
  unfold olderF
  rw [if_pos rfl, less_irr]
theorem older_trans {a b c : Fw} (h1 : olderF a b = true) (h2 : olderF b c = true) : olderF a c = true := by
  unfold olderF at h1 h2 ⊢
  by_cases e1 : a.no = b.no
  · rw [if_pos e1] at h1
    by_cases e2 : b.no = c.no
    · rw [if_pos e2] at h2
      rw [if_pos (e1.trans e2)]
      exact less_trans h1 h2
    · rw [if_neg e2] at h2
      have h3 := of_decide_eq_true h2
      rw [if_neg (by omega)]
      exact decide_eq_true (by omega)
  · rw [if_neg e1] at h1
    have h3 := of_decide_eq_true h1
    by_cases e2 : b.no = c.no
    · rw [if_neg (by omega)]
      exact decide_eq_true (by omega)
    · rw [if_neg e2] at h2
      have h4 := of_decide_eq_true h2
      rw [if_neg (by omega)]
      exact decide_eq_true (by omega)
theorem older_asym {a b : Fw} (h : olderF a b = true) : olderF b a = false := by
  apply Bool.eq_false_iff.2
  intro h2
  have h3 := older_trans h h2
  rw [older_irr] at h3
  cases h3
/-- Of right flows of unlike keys one is older. -/
theorem older_other {a b : Fw} (ha : rightF a = true) (hb : rightF b = true) (hk : a.k ≠ b.k) (h : olderF a b = false) : olderF b a = true := by
  unfold olderF at h ⊢
  by_cases e : a.no = b.no
  · rw [if_pos e] at h
    rw [if_pos e.symm]
    exact less_other h (fun e2 => hk (tuB_inj a.ok b.ok (right_fit ha) (right_fit hb) e2))
  · rw [if_neg e] at h
    rw [if_neg (fun e2 => e e2.symm)]
    have := of_decide_eq_false h
    exact decide_eq_true (by omega)
/-- A table's flows. -/
structure RightT (room : Nat) (l : List Fw) : Prop where
  right : ∀ x, x ∈ l → rightF x = true
  sort : l.Pairwise fun a b => olderF a b = true
  apart : l.Pairwise fun a b => a.k ≠ b.k
  fits : l.length ≤ room
def hasK (l : List Fw) (k : Tu) : Option Fw := l.find? fun x => tuQ x.k k
def outK (l : List Fw) (k : Tu) : List Fw := l.filter fun x => !tuQ x.k k
def insF (f : Fw) : List Fw → List Fw
  | [] => [f]
  | y :: l => if olderF f y = true then f :: y :: l else y :: insF f l
/-- What there is room in for one more. -/
def madeR (room : Nat) (l : List Fw) (k : Tu) : List Fw := if (hasK l k).isSome = true then outK l k else if room ≤ l.length then l.tail else l
def putT (room : Nat) (l : List Fw) (f : Fw) : List Fw := if rightF f = true then insF f (madeR room l f.k) else l
def goneT (room : Nat) (l : List Fw) (f : Fw) : Option Fw := if rightF f = true then (if (hasK l f.k).isSome = true then none else if room ≤ l.length then l.head? else none) else none
theorem insF_perm (f : Fw) : ∀ l, (insF f l).Perm (f :: l)
  | [] => List.Perm.refl _
  | y :: l => by
    unfold insF
    split
    · exact List.Perm.refl _
    · exact ((insF_perm f l).cons y).trans (List.Perm.swap f y l)
theorem insF_mem {f x : Fw} {l : List Fw} : x ∈ insF f l ↔ x = f ∨ x ∈ l := by rw [(insF_perm f l).mem_iff, List.mem_cons]
theorem insF_len (f : Fw) (l : List Fw) : (insF f l).length = l.length + 1 := (insF_perm f l).length_eq
theorem insF_sort {f : Fw} (hf : rightF f = true) : ∀ {l : List Fw}, (∀ x, x ∈ l → rightF x = true) → (l.Pairwise fun a b => olderF a b = true) → (∀ x, x ∈ l → x.k ≠ f.k) → (insF f l).Pairwise fun a b => olderF a b = true
  | [], _, _, _ => List.pairwise_singleton _ _
  | y :: l, hr, h, hk => by
    unfold insF
    obtain ⟨h1, h2⟩ := List.pairwise_cons.1 h
    split
    · rename_i hy
      refine List.pairwise_cons.2 ⟨fun z hz => ?_, h⟩
      rcases List.mem_cons.1 hz with rfl | hz
      · exact hy
      · exact older_trans hy (h1 z hz)
    · rename_i hy
      have hy2 := older_other hf (hr y List.mem_cons_self) (fun e => hk y List.mem_cons_self e.symm) (Bool.eq_false_iff.2 hy)
      refine List.pairwise_cons.2 ⟨fun z hz => ?_, insF_sort hf (fun x hx => hr x (List.mem_cons_of_mem _ hx)) h2 (fun x hx => hk x (List.mem_cons_of_mem _ hx))⟩
      rcases insF_mem.1 hz with rfl | hz
      · exact hy2
      · exact h1 z hz
theorem hasK_some {l : List Fw} {k : Tu} {x : Fw} (h : hasK l k = some x) : x ∈ l ∧ x.k = k := ⟨List.mem_of_find?_eq_some h, tuQ_eq.1 (List.find?_some (p := fun x : Fw => tuQ x.k k) h)⟩
theorem hasK_none {l : List Fw} {k : Tu} (h : hasK l k = none) : ∀ x, x ∈ l → x.k ≠ k := fun x hx e => by
  have := List.find?_eq_none.1 h x hx
  rw [tuQ_eq.2 e] at this
  exact this rfl
theorem hasK_no {l : List Fw} {k : Tu} (h : ∀ x, x ∈ l → x.k ≠ k) : hasK l k = none := List.find?_eq_none.2 fun x hx => by rw [tuQ_ne (h x hx)]; exact Bool.false_ne_true
theorem hasK_of {l : List Fw} (ha : l.Pairwise fun a b => a.k ≠ b.k) {x : Fw} (hx : x ∈ l) : hasK l x.k = some x := by
  induction l with
  | nil => cases hx
  | cons y l ih =>
    obtain ⟨h1, h2⟩ := List.pairwise_cons.1 ha
    unfold hasK
    rcases List.mem_cons.1 hx with rfl | hx
    · rw [List.find?_cons_of_pos (by exact tuQ_self _)]
    · rw [List.find?_cons_of_neg (by rw [tuQ_ne (h1 x hx)]; exact Bool.false_ne_true)]
      exact ih h2 hx
theorem outK_mem {l : List Fw} {k : Tu} {x : Fw} : x ∈ outK l k ↔ x ∈ l ∧ x.k ≠ k := by
  unfold outK
  rw [List.mem_filter]
  constructor
  · rintro ⟨h1, h2⟩
    refine ⟨h1, fun e => ?_⟩
    rw [tuQ_eq.2 e] at h2
    cases h2
  · rintro ⟨h1, h2⟩
    exact ⟨h1, by rw [tuQ_ne h2]; rfl⟩
theorem outK_len {l : List Fw} (ha : l.Pairwise fun a b => a.k ≠ b.k) {x : Fw} (hx : x ∈ l) : (outK l x.k).length + 1 = l.length := by
  induction l with
  | nil => cases hx
  | cons y l ih =>
    obtain ⟨h1, h2⟩ := List.pairwise_cons.1 ha
    unfold outK
    rcases List.mem_cons.1 hx with rfl | hx
    · rw [List.filter_cons_of_neg (by rw [tuQ_self]; decide), List.filter_eq_self.2 (fun z hz => by rw [tuQ_ne (fun e => h1 z hz e.symm)]; rfl)]
      rfl
    · rw [List.filter_cons_of_pos (by rw [tuQ_ne (h1 x hx)]; rfl), List.length_cons, List.length_cons]
      have := ih h2 hx
      unfold outK at this
      omega
theorem RightT.sub {room : Nat} {l m : List Fw} (h : RightT room l) (hs : m.Sublist l) : RightT room m := ⟨fun x hx => h.right x (hs.subset hx), h.sort.sublist hs, h.apart.sublist hs, Nat.le_trans hs.length_le h.fits⟩
theorem made_sub (room : Nat) (l : List Fw) (k : Tu) : (madeR room l k).Sublist l := by
  unfold madeR
  split
  · exact List.filter_sublist
  · split
    · exact List.tail_sublist l
    · exact List.Sublist.refl l
theorem made_ne {room : Nat} {l : List Fw} {k : Tu} : ∀ x, x ∈ madeR room l k → x.k ≠ k := fun x hx => by
  unfold madeR at hx
  split at hx
  · exact (outK_mem.1 hx).2
  · rename_i hn
    have h1 : hasK l k = none := by
      cases hk : hasK l k with
      | none => rfl
      | some y => rw [hk] at hn; exact absurd rfl hn
    split at hx
    · exact hasK_none h1 x (List.mem_of_mem_tail hx)
    · exact hasK_none h1 x hx
theorem made_len {room : Nat} {l : List Fw} (h : RightT room l) (h0 : 0 < room) (k : Tu) : (madeR room l k).length < room := by
  unfold madeR
  have := h.fits
  split
  · rename_i hs
    obtain ⟨x, hx⟩ := Option.isSome_iff_exists.1 hs
    obtain ⟨h1, rfl⟩ := hasK_some hx
    have := outK_len h.apart h1
    omega
  · split
    · rw [List.length_tail]
      omega
    · omega
theorem putT_right {room : Nat} {l : List Fw} (h : RightT room l) (h0 : 0 < room) (f : Fw) : RightT room (putT room l f) := by
  unfold putT
  split
  · rename_i hf
    have h1 := h.sub (made_sub room l f.k)
    have h2 := made_len h h0 f.k
    refine ⟨fun x hx => ?_, insF_sort hf h1.right h1.sort made_ne, ?_, by rw [insF_len]; omega⟩
    · rcases insF_mem.1 hx with rfl | hx
      · exact hf
      · exact h1.right x hx
    · refine ((insF_perm f _).symm).pairwise (List.pairwise_cons.2 ⟨fun x hx e => made_ne x hx e.symm, h1.apart⟩) (fun h e => h e.symm)
  · exact h
theorem outK_right {room : Nat} {l : List Fw} (h : RightT room l) (k : Tu) : RightT room (outK l k) := h.sub List.filter_sublist
theorem filter_right {room : Nat} {l : List Fw} (h : RightT room l) (q : Fw → Bool) : RightT room (l.filter q) := h.sub List.filter_sublist
theorem nil_right (room : Nat) : RightT room [] := ⟨fun _ h => (by cases h), List.Pairwise.nil, List.Pairwise.nil, Nat.zero_le _⟩
/-- What rises so is told by what is in it. -/
theorem sort_eq : ∀ {l r : List Fw}, (l.Pairwise fun a b => olderF a b = true) → (r.Pairwise fun a b => olderF a b = true) → l.Perm r → l = r
  | [], r, _, _, h => h.nil_eq
  | x :: l, [], _, _, h => by
    have := h.length_eq
    simp at this
  | x :: l, y :: r, h1, h2, h => by
    obtain ⟨h3, h4⟩ := List.pairwise_cons.1 h1
    obtain ⟨h5, h6⟩ := List.pairwise_cons.1 h2
    have hxy : x = y := by
      rcases List.mem_cons.1 (h.mem_iff.1 List.mem_cons_self) with rfl | h7
      · rfl
      · rcases List.mem_cons.1 (h.mem_iff.2 List.mem_cons_self) with rfl | h8
        · rfl
        · have h9 := older_asym (h5 x h7)
          rw [h3 y h8] at h9
          cases h9
    subst hxy
    rw [sort_eq h4 h6 (h.cons_inv)]
end Go.Proofs.Ytfbiinipiklkaaa
namespace Go.Proofs.Ytfbiinipiklkaaa
set_option maxRecDepth 100000
open Go.RowKit Go.Lib

/-- A flow's cells. -/
def fwE (f : Fw) : List Value := [strV f.nm, .int .i64 f.st, .int .i64 f.sn, .int .i64 f.no]
def fwL (f : Fw) : List Value := tuL f.k ++ fwE f
def fwC (f : Fw) : Value := .agg (fwL f).toArray
theorem fwL_len (f : Fw) : (fwL f).length = 41 := by
  unfold fwL
  rw [List.length_append, tuL_len f.ok]
  rfl
theorem fwL_one (f : Fw) : ∀ v ∈ fwL f, v.oneCell' = true := by
  intro v hv
  unfold fwL at hv
  rcases List.mem_append.1 hv with hv | hv
  · exact tuL_one f.k v hv
  · simp only [fwE, List.mem_cons, List.not_mem_nil, or_false] at hv
    rcases hv with rfl | rfl | rfl | rfl <;> rfl
def eF : Enc Fw where
  S := 42
  T := 28
  k := 41
  bytes := 104
  zero := fwC fw0
  f := fwL
  len := fwL_len
  one := fwL_one
  und := Try.underlying42
  info := by kernel_rfl
  pos := by decide
  zlen := rfl
  small := by decide
theorem sizeFw : (Try.prog.info? 28).map (·.size) = some 41 := by kernel_rfl
theorem sizeFwL (f : Fw) : (Try.prog.info? 28).map (·.size) = some (fwL f).length := by rw [fwL_len]; exact sizeFw
/-- Each of a flow's cells. -/
theorem fw_tu (f : Fw) {i : Nat} {v : Value} (h : (tuL f.k)[i]? = some v) : (fwL f)[i]? = some v := by
  unfold fwL
  rw [List.getElem?_append_left (List.getElem?_eq_some_iff.1 h).1]
  exact h
theorem fw_tail (f : Fw) (i : Nat) : (fwL f)[37 + i]? = (fwE f)[i]? := by
  unfold fwL
  rw [List.getElem?_append_right (by rw [tuL_len f.ok]; omega), tuL_len f.ok, Nat.add_sub_cancel_left]
theorem fw_nm (f : Fw) : (fwL f)[37]? = some (strV f.nm) := fw_tail f 0
theorem fw_st (f : Fw) : (fwL f)[38]? = some (.int .i64 f.st) := fw_tail f 1
theorem fw_sn (f : Fw) : (fwL f)[39]? = some (.int .i64 f.sn) := fw_tail f 2
theorem fw_no (f : Fw) : (fwL f)[40]? = some (.int .i64 f.no) := fw_tail f 3
/-- The key's cells are the first ones. -/
theorem fw_key {f : Fw} {w : World} {b o : Nat} (h : w.rangeAt b o (fwL f)) : w.rangeAt b o (tuL f.k) := fun i u hu => h i u (fw_tu f hu)
end Go.Proofs.Ytfbiinipiklkaaa
namespace Go.Proofs.Ytfbiinipiklkaaa
set_option maxRecDepth 100000
open Go.RowKit Go.Lib

theorem plain_string : Try.prog.plainKey 9 = true := by kernel_rfl
theorem part_string (w : World) {cs : List Value} {v : Value} {o : Nat} (h : cs[o]? = some v) : (part 9 cs.toArray o).run Try.prog w = .ok v w := run_part_plain w plain_string (by simpa using h)
theorem under_fw : Try.prog.underlying 28 = some (.struct (Try.prog.fieldsOf 28)) := by kernel_rfl
theorem held_fw : Try.prog.stoodInHeld 28 = false := by kernel_rfl
theorem guard_fw : Try.prog.eqGuardType Try.prog.depth 28 = false := by kernel_rfl
theorem guard_tu' : Try.prog.eqGuardType Try.prog.depth 26 = false := by kernel_rfl
theorem fields_fw : ∃ o : Nat → Nat, (Try.prog.fieldsOf 28).toList = [⟨ "Key", 26, 0, false, "", "", o 0⟩, ⟨ "Name", 9, 37, false, "", "", o 1⟩, ⟨ "State", 3, 38, false, "", "", o 2⟩, ⟨ "Seen", 3, 39, false, "", "", o 3⟩, ⟨ "No", 3, 40, false, "", "", o 4⟩] :=
  ⟨fun i => ((Try.prog.fieldsOf 28).toList[i]?.map (·.byteOffset)).getD 0, by kernel_rfl⟩
theorem run_eq_fw (w : World) (a b : Fw) : (Op.equalIn 10000 28 (fwC a) (fwC b)).run Try.prog w = .ok (fwQ a b) w := by
  have e0 : (Op.equalIn 9999 26 (tuC a.k) (tuC b.k)).run Try.prog w = .ok (tuQ a.k b.k) w := run_eqs_tu w 9995 a.ok b.ok
  have e1 : (Op.equalIn 9999 9 (strV a.nm) (strV b.nm)).run Try.prog w = .ok (a.nm == b.nm) w := by
    unfold strV
    rw [show 9999 = 9998 + 1 from rfl, run_equalIn_string w 9998 9 _ _ Try.underlying9, ByteArray.toList_mk, ByteArray.toList_mk]
  have e2 : ∀ m n : Int, (Op.equalIn 9999 3 (.int .i64 m) (.int .i64 n)).run Try.prog w = .ok (m == n) w := fun m n => run_equalIn_int w 9998 3 .i64 _ m n Try.underlying3
  have pk : ∀ f : Fw, ((fwL f).drop 0).take 37 = tuL f.k := fun f => by
    unfold fwL
    rw [List.drop_zero, List.take_append_of_le_length (by rw [tuL_len f.ok]; exact Nat.le_refl _), List.take_of_length_le (by rw [tuL_len f.ok]; exact Nat.le_refl _)]
  unfold fwC
  rw [show 10000 = 9999 + 1 from rfl, run_equalIn_agg w 9999 _ _ _ under_fw held_fw]
  obtain ⟨o, hf⟩ := fields_fw
  rw [hf, run_fields w 9999 _ _ (fun i => if i = 0 then tuQ a.k b.k else if i = 1 then a.nm == b.nm else if i = 2 then a.st == b.st else if i = 3 then a.sn == b.sn else a.no == b.no) _ 0 ?_]
  · simp [List.range', fwQ]
  · intro j f hj
    match j, hj with
    | 0, hj => cases hj; exact ⟨show ("Key" : String) ≠ "_" by decide, _, _, part_tu w (pk a), part_tu w (pk b), e0⟩
    | 1, hj => cases hj; exact ⟨show ("Name" : String) ≠ "_" by decide, _, _, part_string w (fw_nm a), part_string w (fw_nm b), e1⟩
    | 2, hj => cases hj; exact ⟨show ("State" : String) ≠ "_" by decide, _, _, part_int w (fw_st a), part_int w (fw_st b), e2 _ _⟩
    | 3, hj => cases hj; exact ⟨show ("Seen" : String) ≠ "_" by decide, _, _, part_int w (fw_sn a), part_int w (fw_sn b), e2 _ _⟩
    | 4, hj => cases hj; exact ⟨show ("No" : String) ≠ "_" by decide, _, _, part_int w (fw_no a), part_int w (fw_no b), e2 _ _⟩
theorem run_eql_fw (a b : Fw) (w : World) : (binOp .eql 28 (fwC a) (fwC b)).run Try.prog w = .ok (.bool (fwQ a b)) w := by
  have := run_eq_fw w a b
  unfold fwC at this ⊢
  rw [run_eql_struct, this, Result.andThen_ok]
theorem run_neq_fw (a b : Fw) (w : World) : (binOp .neq 28 (fwC a) (fwC b)).run Try.prog w = .ok (.bool (!fwQ a b)) w := by
  have := run_eq_fw w a b
  unfold fwC at this ⊢
  rw [run_neq_struct, this, Result.andThen_ok]
theorem run_neqs_tu (w : World) {t u : Tu} (h : t.Ok) (k : u.Ok) : (binOp .neq 26 (tuC t) (tuC u)).run Try.prog w = .ok (.bool (!tuQ t u)) w := by
  have := run_eqs_tu w 9996 h k
  unfold tuC at this ⊢
  rw [run_neq_struct, this, Result.andThen_ok]
/-- Comparing two values of a struct type, as an operation of the walk, guarded or not; as one of a region that draws. -/
theorem wpList_cmpS {w : World} {ops : Array Oper} {rest : List Oper} {op : Oper} {a : Act} {Q : Exit → Act → World → Prop} (o : BinOp) (T k : TypeId) (x y : Operand) (ho : op.op = .binOp o T x y k) (hw : Region.wanted op (yielded ops a.tmps) = true)
    (xs ys : Array Value) (hx : a.eval x = .agg xs) (hy : a.eval y = .agg ys) (hm : Try.prog.eqGuardType Try.prog.depth T = false) (r : Bool) (hr : ∀ w, (binOp o T (.agg xs) (.agg ys)).run Try.prog w = .ok (.bool r) w)
    (hk : wpList Try.prog ops Q rest (a.put op.dst (.bool r)) w) : wpList Try.prog ops Q (op :: rest) a w :=
  BigFrame.wpList_want hw fun K hK => by
    unfold Oper.wp execOp
    simp only [ho, hx, hy, Sem.run_bind, run_eqGuard_agg w o T x y xs ys hm, Result.andThen_ok, hr, Sem.run_pure]
    exact hK _ _ hk
theorem yields_cmpS {ops : Array Oper} {S : World → Prop} {op : Oper} {a : Act} (hw : Region.wanted op (yielded ops a.tmps) = true) (o : BinOp) (T k : TypeId) (x y : Operand) (ho : op.op = .binOp o T x y k)
    (xs ys : Array Value) (hx : a.eval x = .agg xs) (hy : a.eval y = .agg ys) (hm : Try.prog.eqGuardType Try.prog.depth T = false) (r : Bool) (hr : ∀ w, (binOp o T (.agg xs) (.agg ys)).run Try.prog w = .ok (.bool r) w) : YieldsIf Try.prog ops S op (.bool r) a :=
  .inl ⟨hw, fun w _ => by
    unfold execOp
    simp only [ho, hx, hy, Sem.run_bind, run_eqGuard_agg w o T x y xs ys hm, Result.andThen_ok, hr, Sem.run_pure]⟩
end Go.Proofs.Ytfbiinipiklkaaa
namespace Go.Proofs.Ytfbiinipiklkaaa
set_option maxRecDepth 100000
open Go.RowKit Go.Lib

theorem wpList_loadFw {w : World} {ops : Array Oper} {rest : List Oper} {op : Oper} {a : Act} {Q : Exit → Act → World → Prop} (x : Operand) (ho : op.op = .load 28 x) (hw : Region.wanted op (yielded ops a.tmps) = true)
    (g o : Nat) (hx : a.eval x = .pointer (some ⟨g, o, none⟩)) (f : Fw) (hb : w.rangeAt g o (fwL f)) (C : Array Value) (hC : (fwL f).toArray = C)
    (hk : wpList Try.prog ops Q rest (a.put op.dst (.agg C)) w) : wpList Try.prog ops Q (op :: rest) a w := by
  subst hC
  exact BigFrame.wpList_want hw fun _ hK => wp_load_mid 28 x ho g o hx (fwL f) _ hb Try.underlying28 rfl (sizeFwL f) (hK _ _ hk)
theorem sizeKey {key : List UInt8} (h : key.length = 16) : (Try.prog.info? 22).map (·.size) = some (key.map v8).length := by
  rw [List.length_map, h]
  kernel_rfl
theorem wpList_loadKey {w : World} {ops : Array Oper} {rest : List Oper} {op : Oper} {a : Act} {Q : Exit → Act → World → Prop} (x : Operand) (ho : op.op = .load 22 x) (hw : Region.wanted op (yielded ops a.tmps) = true)
    (g o : Nat) (hx : a.eval x = .pointer (some ⟨g, o, none⟩)) (key : List UInt8) (hk16 : key.length = 16) (hb : w.rangeAt g o (key.map v8)) (C : Array Value) (hC : (key.map v8).toArray = C)
    (hk : wpList Try.prog ops Q rest (a.put op.dst (.agg C)) w) : wpList Try.prog ops Q (op :: rest) a w := by
  subst hC
  exact BigFrame.wpList_want hw fun _ hK => wp_load_mid 22 x ho g o hx (key.map v8) _ hb Try.underlying22 rfl (sizeKey hk16) (hK _ _ hk)
theorem yields_loadFw {ops : Array Oper} {S : World → Prop} {op : Oper} {a : Act} (hw : Region.wanted op (yielded ops a.tmps) = true) (x : Operand) (ho : op.op = .load 28 x) (g o : Nat) (hx : a.eval x = .pointer (some ⟨g, o, none⟩)) (f : Fw) (hb : ∀ W, S W → W.rangeAt g o (fwL f)) (C : Array Value) (hC : (fwL f).toArray = C) : YieldsIf Try.prog ops S op (.agg C) a := by
  rw [← hC]
  exact yieldsIf_load_mid hw 28 x ho g o hx (fwL f) _ hb Try.underlying28 rfl (sizeFwL f)
theorem bel3 {w w1 w2 : World} (h : Below w.heap.size w w1) (h1 : Below w1.heap.size w1 w2) : Below w.heap.size w w2 := h.trans (h1.mono h.size)
end Go.Proofs.Ytfbiinipiklkaaa
