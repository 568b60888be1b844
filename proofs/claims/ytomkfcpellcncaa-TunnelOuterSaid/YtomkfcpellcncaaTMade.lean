/-
  Plain mathematics of stage 13: frames that are made, wrapped. No program is walked here.
-/
import Derived.Test.YtomkfcpellcncaaTMath
import Derived.Test.YtomkfcpellcncaaKRMake
namespace Go.Proofs.Ytomkfcpellcncaa
open Go.RowKit Go.Lib

theorem lenT_ih (t : Tu) : lenT t.s = ihN t := rfl
theorem headK_T {t : Tu} {p : Nat} (hp : t.pr = (p : Int)) (n : Nat) : headK t n = headT t.s t.d p n := by
  unfold headK headT six6 four4 h6T h4T
  rw [hp]
theorem okT_made {L : Lk} {t : Tu} {f : Int} (hm : MakeOk L t f) {p : Nat} (hp : t.pr = (p : Int)) {n : Nat} (hl : ihN t + n ≤ if t.s.six = true then 65575 else 65535) : okT t.s t.d p n = true := by
  unfold okT
  cases h : t.s.six with
  | true =>
    rw [h, if_pos rfl] at hl
    have h40 : ihN t = 40 := if_pos h
    rw [if_pos rfl]
    have := six_right hm h (n := n) (by omega)
    unfold six6 at this
    rw [hp] at this
    exact this
  | false =>
    rw [h, if_neg (by decide)] at hl
    have h20 : ihN t = 20 := if_neg (by rw [h]; decide)
    rw [if_neg (by decide)]
    have := four_right hm h (n := n) (by omega)
    unfold four4 at this
    rw [hp] at this
    exact this
/-- What a frame that is made tells, with whatever behind it. -/
theorem made_read {L : Lk} {t : Tu} {f : Int} {load : List UInt8} (h6 : L.Six) (ho : t.Ok) (hm : MakeOk L t f) {p : Nat} (hp : t.pr = (p : Int)) (hl : ihN t + (shN_ t + load.length) ≤ if t.s.six = true then 65575 else 65535) (more : List UInt8) :
    (rdOf (makeK L t f load ++ more)).2 = 0 ∧ (rdOf (makeK L t f load ++ more)).1.ty = tyA t.s ∧ (rdOf (makeK L t f load ++ more)).1.ts = L.ts ∧ atK (makeK L t f load ++ more) = 14 + 4 * L.ts.length ∧
    fN (makeK L t f load ++ more) = ⟨0, ihN t, ihN t + (shN_ t + load.length), false, p, t.s, t.d⟩ := by
  have hb := rdOf_back (typed_six h6 t) hm.link (ipK t f load ++ more)
  have e : makeK L t f load ++ more = lkB (typedL L t) ++ (ipK t f load ++ more) := by unfold makeK; rw [List.append_assoc]
  rw [← e] at hb
  have ha : atK (makeK L t f load ++ more) = 14 + 4 * L.ts.length := by unfold atK; rw [hb]; rfl
  have hd : (makeK L t f load ++ more).drop (14 + 4 * L.ts.length) = headT t.s t.d p (fillK t f load).length ++ (fillK t f load ++ more) := by
    have hll : (lkB (typedL L t)).length = 14 + 4 * L.ts.length := lkB_len (typed_six h6 t)
    rw [e, ← hll, List.drop_left]
    unfold ipK
    rw [List.append_assoc, headK_T hp, segK_len, fillK_len]
  refine ⟨by rw [hb], by rw [hb]; rfl, by rw [hb]; rfl, ha, ?_⟩
  have h0 : (rdOf (makeK L t f load ++ more)).2 = 0 := by rw [hb]
  have hty : (rdOf (makeK L t f load ++ more)).1.ty = tyA t.s := by rw [hb]; rfl
  rw [fN_yes h0, hty, ha, hd]
  have := headT_read ho.s ho.d (p := p) (zs := fillK t f load) (by rw [fillK_len]; exact okT_made hm hp hl) more
  rw [fillK_len] at this ⊢
  exact this
/-- The statements' frame: 1.2.3.4 to itself, TCP; IPv6's address of noughts. -/
def AA : Ad := ⟨false, [1, 2, 3, 4, 0, 0, 0, 0, 0, 0, 0, 0, 0, 0, 0, 0]⟩
def S6 : Ad := ⟨true, z16⟩
def SA : Tu := ⟨AA, AA, 6, 0, 0⟩
def LD6 : List UInt8 := [49, 50, 51, 52, 53, 54]
def LA : List UInt8 := makeK Lk.zero SA 2 LD6
def LC : List UInt8 := wrapL (LA ++ [9]) AA AA
def LX : List UInt8 := wrapL LA S6 S6
theorem SA_ok : SA.Ok := ⟨rfl, rfl⟩
theorem sa_ok : MakeOk Lk.zero SA 2 := ⟨by decide, by decide, .inl rfl, by decide, by decide, by decide, by decide, by decide, by decide, by decide⟩
theorem la_len : LA.length = 60 := makeK_len zero_six SA_ok 2 LD6
theorem la_read (more : List UInt8) : (rdOf (LA ++ more)).2 = 0 ∧ (rdOf (LA ++ more)).1.ty = 2048 ∧ (rdOf (LA ++ more)).1.ts = [] ∧ atK (LA ++ more) = 14 ∧ fN (LA ++ more) = ⟨0, 20, 46, false, 6, AA, AA⟩ :=
  made_read zero_six SA_ok sa_ok (p := 6) rfl (by decide) more
theorem la_fN : fN LA = ⟨0, 20, 46, false, 6, AA, AA⟩ := by
  have := (la_read []).2.2.2.2
  rwa [List.append_nil] at this
theorem la_at : atK LA = 14 := by
  have := (la_read []).2.2.2.1
  rwa [List.append_nil] at this
theorem wr1 : wrapE (LA ++ [9]) AA AA = 0 := by
  unfold wrapE
  rw [(la_read [9]).2.2.2.2]
  decide
theorem wr2 : wrapE LA S6 S6 = 0 := by
  unfold wrapE
  rw [la_fN]
  decide
theorem wr3 : wrapE LA AA S6 = 1 := by
  unfold wrapE
  rw [la_fN]
  decide
theorem lc_len : LC.length = 80 := by
  unfold LC
  rw [wrapL_len (s := AA) (d := AA) rfl rfl (by rw [(la_read [9]).2.2.2.2]), (la_read [9]).2.2.2.2, (la_read [9]).2.2.2.1]
  rfl
theorem lx_len : LX.length = 100 := by
  unfold LX
  rw [wrapL_len (s := S6) (d := S6) rfl rfl (by rw [la_fN]), la_fN, la_at]
  rfl
theorem lc_back : unB LC = true ∧ unL LC = LA := by
  have h := wrap_back (xs := LA ++ [9]) (s := AA) (d := AA) rfl rfl wr1 []
  rw [List.append_nil, (la_read [9]).2.2.2.2, (la_read [9]).2.2.2.1] at h
  refine ⟨h.1, h.2.trans ?_⟩
  show (LA ++ [9]).take (14 + 46) = LA
  rw [List.take_append_of_le_length (by rw [la_len]; decide), List.take_of_length_le (by rw [la_len]; decide)]
theorem la_un : unB LA = false := by
  unfold unB inN
  rw [la_fN]
  rfl
end Go.Proofs.Ytomkfcpellcncaa
