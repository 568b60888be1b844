/-
  Backends in cells: slices of them, one in a block.
-/
import Derived.Test.YtajmppaodhpmgaaUMath
import Derived.Test.YtajmppaodhpmgaaVEnc
import Derived.Test.YtajmppaodhpmgaaGBlk
namespace Go.Proofs.Ytajmppaodhpmgaa
set_option maxRecDepth 100000
open Go.RowKit Go.Lib

/-- A backend's cells. -/
def bkL (b : Bk) : List Value := strV b.nm :: (adL b.ad ++ (.int .i64 b.port :: (b.mac.map v8 ++ [.float .f64 b.wt, .bool b.dr])))
theorem bkL_len (b : Bk) : (bkL b).length = 27 := by
  unfold bkL adL
  simp [b.hb, b.hm]
theorem bkL_one (b : Bk) : ∀ v ∈ bkL b, v.oneCell' = true := by
  intro v hv
  unfold bkL at hv
  rcases List.mem_cons.1 hv with rfl | hv
  · rfl
  · rcases List.mem_append.1 hv with hv | hv
    · exact adL_one b.ad v hv
    · rcases List.mem_cons.1 hv with rfl | hv
      · rfl
      · rcases List.mem_append.1 hv with hv | hv
        · obtain ⟨x, _, rfl⟩ := List.mem_map.1 hv
          rfl
        · rcases List.mem_cons.1 hv with rfl | hv
          · rfl
          · rw [List.mem_singleton.1 hv]
            rfl
def bkC (b : Bk) : Value := .agg (bkL b).toArray
def zer16 : List UInt8 := [0, 0, 0, 0, 0, 0, 0, 0, 0, 0, 0, 0, 0, 0, 0, 0]
def bk0 : Bk := ⟨[], ⟨false, zer16⟩, 0, [0, 0, 0, 0, 0, 0], 0, false, rfl, rfl, by decide⟩
def eB : Enc Bk where
  S := 22
  T := 36
  k := 27
  bytes := 72
  zero := bkC bk0
  f := bkL
  len := bkL_len
  one := bkL_one
  und := Try.underlying22
  info := by kernel_rfl
  pos := by decide
  zlen := rfl
  small := by decide
theorem sizeBk : (Try.prog.info? 36).map (·.size) = some 27 := by kernel_rfl
/-- Each of a backend's cells. -/
theorem bk_nm (b : Bk) : (bkL b)[0]? = some (strV b.nm) := rfl
theorem bk_six (b : Bk) : (bkL b)[1]? = some (.bool b.ad.six) := rfl
theorem bk_ad (b : Bk) {i : Nat} {x : UInt8} (hx : b.ad.b[i]? = some x) : (bkL b)[2 + i]? = some (v8 x) := by
  have hi : i < 16 := by rw [← b.hb]; exact (List.getElem?_eq_some_iff.1 hx).1
  unfold bkL
  rw [show 2 + i = (1 + i) + 1 by omega, List.getElem?_cons_succ, List.getElem?_append_left (by rw [adL_len b.hb]; omega)]
  unfold adL
  rw [show 1 + i = i + 1 by omega, List.getElem?_cons_succ, List.getElem?_map, hx]
  rfl
theorem bk_tail (b : Bk) (i : Nat) : (bkL b)[18 + i]? = (.int .i64 b.port :: (b.mac.map v8 ++ [.float .f64 b.wt, .bool b.dr]))[i]? := by
  unfold bkL
  rw [show 18 + i = (17 + i) + 1 by omega, List.getElem?_cons_succ, List.getElem?_append_right (by rw [adL_len b.hb]; omega), adL_len b.hb, Nat.add_sub_cancel_left]
theorem bk_port (b : Bk) : (bkL b)[18]? = some (.int .i64 b.port) := by
  have := bk_tail b 0
  exact this
theorem bk_mac (b : Bk) {i : Nat} {x : UInt8} (hx : b.mac[i]? = some x) : (bkL b)[19 + i]? = some (v8 x) := by
  have hi : i < 6 := by rw [← b.hm]; exact (List.getElem?_eq_some_iff.1 hx).1
  have h := bk_tail b (1 + i)
  rw [show 18 + (1 + i) = 19 + i by omega, show 1 + i = i + 1 by omega, List.getElem?_cons_succ, List.getElem?_append_left (by rw [List.length_map, b.hm]; omega), List.getElem?_map, hx] at h
  exact h
theorem bk_wt (b : Bk) : (bkL b)[25]? = some (.float .f64 b.wt) := by
  have h := bk_tail b 7
  rw [List.getElem?_cons_succ, List.getElem?_append_right (by rw [List.length_map, b.hm]; omega), List.length_map, b.hm] at h
  exact h
theorem bk_dr (b : Bk) : (bkL b)[26]? = some (.bool b.dr) := by
  have h := bk_tail b 8
  rw [List.getElem?_cons_succ, List.getElem?_append_right (by rw [List.length_map, b.hm]; omega), List.length_map, b.hm] at h
  exact h
end Go.Proofs.Ytajmppaodhpmgaa
