/-
  PROVED HERE: 'SixKeepsSaid': whatever bytes b are, the Go function SixKeeps of package wayleavelaw09 returns true, and its arguments read behind the call as they read before. No condition.
-/
import Derived.Test.YthicbdjambmnpaaSOpen
namespace Go.Proofs.Ythicbdjambmnpaa
open Go.RowKit Go.Lib Go.ChangeShapes Go.WideShapes Go.ChangeAt

set_option maxRecDepth 100000 in
set_option maxHeartbeats 4000000 in
theorem sixKeeps_walk (A : Option Addr) (len cap : Nat) (xs : List UInt8) (hcap : len ≤ cap) (hcm : cap ≤ maxLen) (w : World) (hI : Rd w w.heap.size A len xs) :
    Calls Try.prog 8 #[.slice A len cap] w fun e w' => e = .returned (.bool true) ∧ Below w.heap.size w w' := by
  have hml : len ≤ 9223372036854775807 := by unfold maxLen at hcm; omega
  go_enter Try.func8, Try.ntmps8
  go_wp2_with fail
  refine (awake_any _).mono ?_
  rintro e w1 ⟨rfl, hb1⟩
  by_cases hle : 2000 < len
  · have hle' : (2000 : Int) < (len : Int) := by omega
    go_wp2_with fail
    refine (awake_any _).mono ?_
    rintro e w2 ⟨rfl, hb2⟩
    go_wp2_with fail
    go_ret
    exact ⟨rfl, hb1.trans (hb2.mono hb1.size)⟩
  · have hle' : ¬ (2000 : Int) < (len : Int) := by omega
    have HI1 := Lib.hid ((hI.below hb1).more hb1.size)
    have HB1 := Lib.hid hb1
    have O0 := Lib.hid (empty8 (base := w1.heap.size) w1 (Nat.le_refl _))
    clear hb1
    go_wp2_with (at_builtin; refine wpList_append8 rfl _ _ rfl w1.heap.size _ [] (by rfl) O0.out _ _ _ _ xs (by rfl) (HI1.out.alloc (Nat.le_refl _) _) (by simp; omega) (by simp) ?_; intro v2 w2 ho2 hg2 _; rw [List.nil_append] at ho2)
    have e2 : Below w1.heap.size w1 w2 := ((Below.refl _ w1).alloc (Nat.le_refl _) (.cells #[] 5)).grown hg2 (by simp) (fun g hg => by simp [Value.ownBlock] at hg; omega)
    obtain ⟨A2, c2, rfl, hc2, hm2, hr2⟩ := ho2.form hI.len
    have HB2 := Lib.hid (HB1.out.trans (e2.mono HB1.out.size))
    have HI2 := Lib.hid ((HI1.out.below e2).more e2.size)
    have HR2 := Lib.hid hr2
    clear hg2 ho2 e2 hr2
    go_wp2_with fail
    refine (read_any A2 len c2 xs (by omega) hc2 hm2 w2 HR2.out).mono ?_
    rintro e w3 ⟨rfl, hb3⟩
    have HB3 := Lib.hid (HB2.out.trans (hb3.mono HB2.out.size))
    have HI3 := Lib.hid ((HI2.out.below hb3).more hb3.size)
    have HR3 := Lib.hid ((HR2.out.below hb3).more hb3.size)
    clear hb3
    go_wp2_with fail
    refine (some_any w3).mono ?_
    rintro e w4 ⟨rfl, hb4⟩
    have HB4 := Lib.hid (HB3.out.trans (hb4.mono HB3.out.size))
    have HI4 := Lib.hid ((HI3.out.below hb4).more hb4.size)
    have HR4 := Lib.hid ((HR3.out.below hb4).more hb4.size)
    clear hb4
    go_wp2_with fail
    refine (fput_yes f0_ok f0_right w4).mono ?_
    rintro e w5 ⟨A5, c5, rfl, hc5, hm5, ho5, _, hb5⟩
    obtain ⟨g, cg, hv, _, _, hbg, hgl, hheld⟩ := own_form ho5 f0_len (by omega)
    cases hv
    have HB5 := Lib.hid (HB4.out.trans (hb5.mono HB4.out.size))
    have HI5 := Lib.hid (HI4.out.below hb5)
    have HR5 := Lib.hid (HR4.out.below hb5)
    have HGB := Lib.hid hbg
    have HGL := Lib.hid hgl
    have HH5 := Lib.hid hheld
    have z5 := hb5.size
    clear hb5 ho5 hheld hbg hgl
    go_wp2_with fail
    go_loopw [6] (fun i wr => ∃ (k : Nat) (cur : List UInt8), k ≤ 40 ∧ i = .int .i64 (k : Int) ∧ cur.length = 40 ∧ Held wr g cur ∧ Below w4.heap.size w5 wr) (fun i _ => 40 - (intOf i).toNat)
    case atStart => exact ⟨0, putF F0, by omega, rfl, f0_len, HH5.out, Below.refl _ _⟩
    case round =>
      clear HH5
      obtain ⟨k, cur, hk, rfl, hcur, hheld, B6⟩ := hrel
      by_cases hlt : k < 40
      · have hlt' : (k : Int) < 40 := by omega
        obtain ⟨x, hx⟩ : ∃ x, cur[k]? = some x := ⟨_, List.getElem?_eq_getElem (by omega)⟩
        obtain ⟨hc, hf⟩ := hheld k x hx
        unfold v8 at hc
        have hset : Held (wr.setCell ⟨g, k, none⟩ (.int .u8 0)) g (cur.set k 0) := hheld.set hx 0
        have hsl : (cur.set k 0).length = 40 := by rw [List.length_set]; exact hcur
        have HS := Lib.hid hset
        have HSL := Lib.hid hsl
        have hB := B6.setCell (p := ⟨g, k, none⟩) HGB.out (.int .u8 0)
        have HB := Lib.hid hB
        clear hset hsl hx hB hcur hheld
        go_wp2_with fail
        go_roundw
        case rel => exact ⟨k + 1, _, by omega, by go_num, HSL.out, HS.out, HB.out⟩
        case measure => simp [intOf]; omega
      · have hlt' : ¬ (k : Int) < 40 := by omega
        have HB6 := Lib.hid (HB5.out.trans (B6.mono HB4.out.size))
        have z6 := B6.size
        have HI6 := Lib.hid ((HI5.out.below B6).more (B' := wr.heap.size) (by omega))
        have HR6 := Lib.hid ((HR5.out.below B6).more (B' := wr.heap.size) (by omega))
        clear hheld hcur B6
        go_wp2_with fail
        refine (some_any wr).mono ?_
        rintro e w7 ⟨rfl, hb7⟩
        have HB7 := Lib.hid (HB6.out.trans (hb7.mono HB6.out.size))
        have HI7 := Lib.hid ((HI6.out.below hb7).more hb7.size)
        have HR7 := Lib.hid ((HR6.out.below hb7).more hb7.size)
        clear hb7
        go_wp2_with fail
        refine (fput_yes f0_ok f0_right w7).mono ?_
        rintro e w8 ⟨A8, c8, rfl, _, _, _, hr8, hb8⟩
        have HB8 := Lib.hid (HB7.out.trans (hb8.mono HB7.out.size))
        have HI8 := Lib.hid (HI7.out.below hb8)
        have HR8 := Lib.hid (HR7.out.below hb8)
        have HP8 := Lib.hid hr8
        clear hb8 hr8
        go_wp2_with fail
        refine (same_any w8 c2 cap HR8.out HI8.out).mono ?_
        rintro e w9 ⟨rfl, rfl⟩
        go_wp2_with fail
        refine (some_any w8).mono ?_
        rintro e w9 ⟨rfl, hb9⟩
        have HB9 := Lib.hid (HB8.out.trans (hb9.mono HB8.out.size))
        have HP9 := Lib.hid ((HP8.out.below hb9).more hb9.size)
        clear hb9
        go_wp2_with fail
        refine (rput_any f0_ok f0_right w9).mono ?_
        rintro e w10 ⟨v10, rfl, ho10, hb10⟩
        obtain ⟨A10, c10, rfl, _, _, hr10⟩ := ho10.form f0_len
        have HB10 := Lib.hid (HB9.out.trans (hb10.mono HB9.out.size))
        have HP10 := Lib.hid (HP9.out.below hb10)
        clear hb10
        go_wp2_with fail
        refine (same_any w10 c8 c10 HP10.out hr10).mono ?_
        rintro e w11 ⟨rfl, rfl⟩
        go_wp2_with fail
        go_ret
        exact ⟨rfl, HB10.out⟩

theorem sixKeeps_walks : WalksTrue 8 Try.f8 := by
  intro H enc W base args ds p hval hA
  rw [Try.params8] at hA hval
  obtain ⟨v0, vs0, d0, ds0, p0, q0, hargs, rfl, rfl, h0, r0⟩ := trodAll_cons hA
  obtain ⟨rfl, rfl, rfl⟩ := trodAll_nil r0
  obtain rfl : args = #[v0] := by cases args; simp_all
  obtain ⟨A0, len0, cap0, xs0, rfl, hc0, hm0, hI0⟩ := open_bytes (hval 0 22 v0 rfl rfl) h0
  exact sixKeeps_walk A0 len0 cap0 xs0 hc0 hm0 W hI0

theorem sixKeeps_said : Rows.SixKeepsSaid :=
  OpenClaim.holds_of_wide 8 Try.f8 rfl rfl rfl rfl rfl rfl rfl ⟨rfl, rfl, rfl, rfl, rfl⟩ rfl rfl rfl rfl rfl (by kernel_rfl) Try.func8 (by kernel_rfl)
    (of_decide_eq_true (by kernel_rfl)) (by unfold Func.isWrapper; first | (rw [if_pos (by decide +kernel)]; kernel_rfl) | (rw [if_neg (by decide +kernel)]; exact ⟨rfl, rfl⟩))
    (fun os started H enc _ => law_lift (s := Rows.sixKeepsSpec) Try.func8 (by kernel_rfl) rfl rfl (by intro H ds hd; match ds, hd with | [_], _ => exact ⟨rfl, rfl, rfl⟩) (by kernel_rfl) sixKeeps_walks os started H enc
      (ChangeSpec.witness6 (enc := enc) (C := Try.checked) false ⟨#[], #[.slice none 0 0], []⟩ 8 (by kernel_rfl) (by kernel_rfl) (by kernel_rfl) (by kernel_rfl)))

end Go.Proofs.Ythicbdjambmnpaa
