/- Strings: eight bytes in a word; packed, made, unpacked, told. -/
import Derived.Test.YtagedholocgahaaGreatDoorOCalls
import Derived.WalkSpells
import Derived.Laws.BytesString
namespace Go.Proofs.YtagedholocgahaaGreatDoor
open Go.RowKit

/-- the worth of a byte's place -/
def pw (j : Nat) : Int :=
  if j = 0 then 1 else if j = 1 then 256 else if j = 2 then 65536 else if j = 3 then 16777216 else if j = 4 then 4294967296 else if j = 5 then 1099511627776 else if j = 6 then 281474976710656 else if j = 7 then 72057594037927936 else 18446744073709551616
/-- the first n bytes, in the words 0, 1, .. -/
def acc (c : Nat → Int) : Nat → Nat → Int
  | 0, _ => 0
  | n + 1, k => acc c n k + (if k = n / 8 then c n * pw (n % 8) else 0)
/-- they are bytes -/
def Byt (c : Nat → Int) : Prop := ∀ i, 0 ≤ c i ∧ c i < 256

theorem lt8 {j : Nat} (h : j < 8) : j = 0 ∨ j = 1 ∨ j = 2 ∨ j = 3 ∨ j = 4 ∨ j = 5 ∨ j = 6 ∨ j = 7 := by omega
theorem pw_pos (j : Nat) : 0 < pw j := by unfold pw; (repeat' split) <;> omega
theorem pw_bd {j : Nat} (h : j < 8) : 256 * pw j ≤ 18446744073709551616 ∧ pw (j + 1) = 256 * pw j := by
  rcases lt8 h with rfl | rfl | rfl | rfl | rfl | rfl | rfl | rfl <;> decide
section
variable {c : Nat → Int}
theorem acc_none (n k : Nat) (h : n ≤ 8 * k) : acc c n k = 0 := by
  induction n with
  | zero => rfl
  | succ n ih =>
    rw [acc, ih (by omega), if_neg (by omega)]
    rfl
theorem acc_next (k j : Nat) (h : j < 8) : acc c (8 * k + (j + 1)) k = acc c (8 * k + j) k + c (8 * k + j) * pw j := by
  rw [show 8 * k + (j + 1) = (8 * k + j) + 1 by omega, acc, if_pos (by omega), show (8 * k + j) % 8 = j by omega]
theorem acc_part (hc : Byt c) (k : Nat) : ∀ j, j ≤ 8 → 0 ≤ acc c (8 * k + j) k ∧ acc c (8 * k + j) k < pw j
  | 0, _ => by
    rw [acc_none _ _ (by omega)]
    decide
  | j + 1, h => by
    obtain ⟨a, b⟩ := acc_part hc k j (by omega)
    have hb := hc (8 * k + j)
    rw [acc_next k j (by omega)]
    generalize acc c (8 * k + j) k = x at *
    generalize c (8 * k + j) = y at *
    rcases lt8 (j := j) (by omega) with rfl | rfl | rfl | rfl | rfl | rfl | rfl | rfl <;> (simp [pw] at * <;> omega)
theorem acc_full {n k : Nat} (h : 8 * k + 8 ≤ n) : acc c n k = acc c (8 * k + 8) k := by
  induction n with
  | zero => omega
  | succ n ih =>
    by_cases e : n + 1 = 8 * k + 8
    · rw [e]
    · rw [acc, ih (by omega), if_neg (by omega)]
      omega
theorem acc_at (hc : Byt c) (n k : Nat) : 0 ≤ acc c n k ∧ acc c n k < 18446744073709551616 := by
  by_cases h : n ≤ 8 * k
  · rw [acc_none n k h]
    omega
  · by_cases h8 : 8 * k + 8 ≤ n
    · rw [acc_full h8]
      exact acc_part hc k 8 (by omega)
    · obtain ⟨a, b⟩ := acc_part hc k (n - 8 * k) (by omega)
      rw [show 8 * k + (n - 8 * k) = n by omega] at a b
      have := pw_bd (j := n - 8 * k) (by omega)
      have := pw_pos (n - 8 * k)
      omega
theorem byte_in (hc : Byt c) (k j : Nat) (hj : j < 8) : ∀ m, m ≤ 8 → j < m → acc c (8 * k + m) k / pw j % 256 = c (8 * k + j)
  | 0, _, h => absurd h (by omega)
  | m + 1, hm, h => by
    obtain ⟨a, b⟩ := acc_part hc k m (by omega)
    have hb := hc (8 * k + m)
    rw [acc_next k m (by omega)]
    by_cases e : j = m
    · subst e
      generalize acc c (8 * k + j) k = x at *
      generalize c (8 * k + j) = y at *
      rcases lt8 hj with rfl | rfl | rfl | rfl | rfl | rfl | rfl | rfl <;> (simp [pw] at * <;> omega)
    · have ih := byte_in hc k j hj m (by omega) (by omega)
      rw [← ih]
      generalize acc c (8 * k + m) k = x at *
      generalize c (8 * k + m) = y at *
      clear ih
      rcases lt8 hj with rfl | rfl | rfl | rfl | rfl | rfl | rfl | rfl <;> rcases lt8 (j := m) (by omega) with rfl | rfl | rfl | rfl | rfl | rfl | rfl | rfl <;> first
        | omega
        | (simp only [pw, Nat.reduceEqDiff, if_true, if_false, OfNat.ofNat_ne_zero, OfNat.ofNat_ne_one, Nat.succ_ne_self] at *; omega)
        | (simp [pw] at * <;> omega)
/-- the byte j of the word k -/
theorem acc_byte (hc : Byt c) {n k j : Nat} (hj : j < 8) (h : 8 * k + j < n) : acc c n k / pw j % 256 = c (8 * k + j) := by
  by_cases h8 : 8 * k + 8 ≤ n
  · rw [acc_full h8]
    exact byte_in hc k j hj 8 (by omega) hj
  · have := byte_in hc k j hj (n - 8 * k) (by omega) (by omega)
    rw [show 8 * k + (n - 8 * k) = n by omega] at this
    exact this
theorem or_byte {x y : Int} {j : Nat} (hj : j < 8) (x0 : 0 ≤ x) (x1 : x < pw j) (y0 : 0 ≤ y) (y1 : y < 256) : bits .or .u64 x (y * pw j) = x + y * pw j := by
  have hb := pw_bd hj
  have hp := pw_pos j
  have e : (2 : Int) ^ (8 * j) = pw j := by
    rcases lt8 hj with rfl | rfl | rfl | rfl | rfl | rfl | rfl | rfl <;> decide
  have hy : y * pw j < 18446744073709551616 := Int.lt_of_lt_of_le (Int.mul_lt_mul_of_pos_right y1 hp) hb.1
  refine or_up (8 * j) x (y * pw j) x0 (by rw [e]; exact x1) (Int.mul_nonneg y0 (by omega)) hy (by rw [e]; exact Int.mul_emod_left _ _) (by omega)
/-- the words of a text: its length, and its bytes -/
def pks (c : Nat → Int) (len m n : Nat) : List Int := (len : Int) :: (List.range m).map (acc c n)
theorem pks_len (c : Nat → Int) (len m n : Nat) : (pks c len m n).length = m + 1 := by simp [pks]
theorem pks_at (c : Nat → Int) (len m n k : Nat) (h : k < m) : (pks c len m n).getD (k + 1) 0 = acc c n k := by simp [pks, h]
theorem pks_zero (c : Nat → Int) (len m : Nat) : pks c len m 0 = (len : Int) :: List.replicate m 0 := by
  unfold pks
  congr 1
  apply List.ext_getElem
  · simp
  · intro i h1 h2
    simp [acc]
theorem pks_next (c : Nat → Int) (len m n : Nat) : (pks c len m n).set (1 + n / 8) (acc c n (n / 8) + c n * pw (n % 8)) = pks c len m (n + 1) := by
  unfold pks
  rw [show 1 + n / 8 = n / 8 + 1 by omega, List.set_cons_succ]
  congr 1
  apply List.ext_getElem
  · simp
  · intro i h1 h2
    simp only [List.getElem_set, List.getElem_map, List.getElem_range, acc]
    by_cases e : n / 8 = i
    · rw [if_pos e, if_pos e.symm, e]
    · rw [if_neg e, if_neg (fun h => e h.symm)]
      omega
end
end Go.Proofs.YtagedholocgahaaGreatDoor

namespace Go.Proofs.YtagedholocgahaaGreatDoor
open Go.ChangeShapes Go.WideShapes Go.ChangeAt Go.RowKit

/-- a text's bytes -/
def byt (s : ByteArray) (i : Nat) : Int := if h : i < s.size then (s[i].toNat : Int) else 0
theorem byt_at (s : ByteArray) {i : Nat} (h : i < s.size) : (s[i].toNat : Int) = byt s i := by rw [byt, dif_pos h]
theorem byt_byt (s : ByteArray) : Byt (byt s) := fun i => by
  unfold byt
  split
  · next h =>
    have := s[i].toNat_lt
    omega
  · omega

theorem shl_byte {y : Int} {j : Nat} (hj : j < 8) (y0 : 0 ≤ y) (y1 : y < 256) : IntKind.u64.wrap (y * 2 ^ (j * 8)) = y * pw j := by
  rw [IntKind.wrap_u64]
  rcases lt8 hj with rfl | rfl | rfl | rfl | rfl | rfl | rfl | rfl <;> (simp [pw] <;> omega)

set_option maxHeartbeats 1000000 in
set_option maxRecDepth 100000 in
theorem pack_str (s : ByteArray) (hs : s.size ≤ 500) (w : World) :
    Calls Tryz.prog 69 #[.string s] w fun e w' => ∃ m : Nat, m = (s.size + 7) / 8 ∧ e = .returned (.slice (some ⟨w.heap.size, 0, none⟩) (m + 1) (m + 1)) ∧
      Lies w' w.heap.size 35 ((pks (byt s) s.size m s.size).map (.int .u64)) ∧ Below w.heap.size w w' := by
  obtain ⟨m, hm⟩ : ∃ m : Nat, (s.size + 7) / 8 = m := ⟨_, rfl⟩
  obtain ⟨L, hL⟩ : ∃ L : Nat, m + 1 = L := ⟨_, rfl⟩
  have hmi : 1 + ((s.size : Int) + 8 - 1) / 8 = L := by omega
  have hmk := run_make_row' (P := Tryz.prog) 59 35 (.int .u64 0) 8 Tryz.underlying59 Tryz.infoU64 rfl .i64 .i64 L (by omega) (by omega)
  have hl := Lies.made w 35 (madeCells #[Value.int .u64 0] L)
  rw [made_zero, List.append_nil] at hl
  have hlt := hl.lt
  have hf0 := hl.free 0
  have hl1 := Lies.made w 35 ((madeCells #[Value.int .u64 0] L).setIfInBounds 0 (.int .u64 (s.size : Int)))
  have e0 : ((madeCells #[Value.int .u64 0] L).setIfInBounds 0 (.int .u64 (s.size : Int))).toList = (pks (byt s) s.size m 0).map (.int .u64) := by
    rw [Array.toList_setIfInBounds, made_zero, List.append_nil, pks_zero, ← hL, List.replicate_succ]
    rfl
  rw [e0] at hl1
  have hc0 : (w.alloc (.cells (madeCells #[Value.int .u64 0] L) 35)).cell? ⟨w.heap.size, 0, none⟩ = some (.int .u64 0) := by
    rw [hl.cell, ← hL]
    rfl
  have hL0 : (0 : Int) < L := by omega
  have hL1 : 0 < L := by omega
  have HL1 := Lib.hid hl1
  have hb1 : Below w.heap.size w (w.alloc (.cells ((madeCells #[Value.int .u64 0] L).setIfInBounds 0 (.int .u64 (s.size : Int))) 35)) :=
    (Below.refl w.heap.size w).alloc (Nat.le_refl _) _
  have HB1 := Lib.hid hb1
  have HM := Lib.hid (And.intro hm hL)
  clear hl hl1 hb1 e0 hm hL
  go_enter Tryz.func69, Tryz.ntmps69
  go_wp2_with fail
  generalize w.alloc (.cells ((madeCells #[Value.int .u64 0] L).setIfInBounds 0 (.int .u64 (s.size : Int))) 35) = W1 at *
  go_loopw [19] (fun v wr => ∃ k : Nat, k ≤ s.size ∧ v = .int .i64 k ∧ Lies wr w.heap.size 35 ((pks (byt s) s.size m k).map (.int .u64)) ∧ Below w.heap.size w wr) (fun v _ => s.size - (intOf v).toNat)
  case atStart => exact ⟨0, by omega, rfl, HL1.out, HB1.out⟩
  case round =>
    obtain ⟨k, hk, rfl, hl, hb⟩ := hrel
    by_cases hks : k < s.size
    · obtain ⟨ix, hix⟩ : ∃ ix : Nat, 1 + k / 8 = ix := ⟨_, rfl⟩
      have hixi : 1 + (k : Int) / 8 = ix := by omega
      have hixL : ix < L := by
        obtain ⟨a, b⟩ := HM.out
        omega
      have hb8 := byt_at s hks
      have hc : wr.cell? ⟨w.heap.size, ix, none⟩ = some (.int .u64 (acc (byt s) k (k / 8))) := by
        obtain ⟨a, b⟩ := HM.out
        rw [hl.cell, ← hix, show 1 + k / 8 = k / 8 + 1 by omega, List.getElem?_map, List.getElem?_eq_getElem (by rw [pks_len]; omega)]
        have := pks_at (byt s) s.size m k (k / 8) (by omega)
        rw [List.getD_eq_getElem?_getD, List.getElem?_eq_getElem (by rw [pks_len]; omega)] at this
        simpa using this
      have hfr := hl.free ix
      obtain ⟨j, hj⟩ : ∃ j : Nat, k % 8 = j := ⟨_, rfl⟩
      have hj8 : j < 8 := by omega
      have hji : (k : Int) % 8 = j := by omega
      have hbd := byt_byt s k
      have hal := acc_part (byt_byt s) (k / 8) j (by omega)
      rw [show 8 * (k / 8) + j = k by omega] at hal
      have hor := or_byte hj8 hal.1 hal.2 hbd.1 hbd.2
      have hnx := pks_next (byt s) s.size m k
      rw [hix, hj] at hnx
      generalize hx : acc (byt s) k (k / 8) = x at *
      generalize hy : byt s k = y at *
      have hy8 : IntKind.u64.wrap y = y := by rw [IntKind.wrap_u64]; omega
      have hsw : IntKind.u64.wrap (y * 2 ^ (j * 8)) = y * pw j := shl_byte hj8 hbd.1 hbd.2
      generalize y * pw j = u at *
      have hl4 := (hl.stored ix (.int .u64 (x + u))).drew
      rw [← List.map_set, hnx] at hl4
      have hb4 := hb.trans ((((Turns.refl (fun g => g = w.heap.size) wr).setCell (p := ⟨w.heap.size, ix, none⟩) (fun _ => rfl) (.int .u64 (x + u))).drew).below hb.size (fun g hg => by omega))
      have HL4 := Lib.hid hl4
      have HB4 := Lib.hid hb4
      clear hl4 hb4 hl hb hnx hal
      generalize x + u = z at *
      go_wp2_with fail
      go_region
      generalize (wr.setCell ⟨w.heap.size, ix, none⟩ (.int .u64 z)).drew = W4 at *
      go_wp2_with fail
      go_roundw
      case rel => exact ⟨k + 1, by omega, by go_num, HL4.out, HB4.out⟩
      case measure => simp [intOf]; omega
    · obtain rfl : k = s.size := by omega
      go_wp2_with fail
      go_ret
      obtain ⟨a, b⟩ := HM.out
      exact ⟨m, a.symm, by rw [b]; rfl, hl, hb⟩

section
variable {w w' : World} {q p b : Nat} {B : Int} {G : Geo} {M : Md} {tg : Nat → Int} {N : Nat} {K : Nat → Prop} {z : Nat}
/-- the fields of a string -/
def strV (s : ByteArray) (m : Nat) : List V := (pks (byt s) s.size m s.size).map V.w
theorem strV_len (s : ByteArray) (m : Nat) : (strV s m).length = m + 1 := by simp [strV, pks_len]
theorem strV_wd (s : ByteArray) (m : Nat) (cell : Nat → Int) : (strV s m).map (V.wd cell) = pks (byt s) s.size m s.size := by
  unfold strV
  rw [List.map_map]
  exact List.map_id _
theorem strV_mem {s : ByteArray} {m : Nat} (hs : s.size ≤ 500) {v : V} (hv : v ∈ strV s m) : ∃ x, v = .w x ∧ 0 ≤ x ∧ x < 18446744073709551616 := by
  obtain ⟨x, hx, rfl⟩ := List.mem_map.1 hv
  refine ⟨x, rfl, ?_⟩
  rcases List.mem_cons.1 hx with rfl | hx
  · omega
  · obtain ⟨k, -, rfl⟩ := List.mem_map.1 hx
    exact acc_at (byt_byt s) _ _

theorem str_no (s : ByteArray) (hs : 500 < s.size) (h1 : s.size ≤ maxLen) (q : Nat) (w : World) :
    Calls Tryz.prog 35 #[.pointer (some ⟨q, 0, none⟩), .string s] w fun e w' => e = .returned (.tuple #[.int .u64 0, .iface 86 (.int .i64 14)]) ∧ w = w' := by
  unfold maxLen at h1
  go_enter Tryz.func35, Tryz.ntmps35
  go_wp2
  go_ret2
  exact ⟨rfl, rfl⟩
theorem str_of (o : Os w q p b B G M tg N K) (s : ByteArray) (hs : s.size ≤ 500) (hB : B + G.k.toNat ≤ 1000000000) (hN : ∀ c, c < 4 → (N : Int) < G.n.at_ c) :
    Calls Tryz.prog 35 #[.pointer (some ⟨q, 0, none⟩), .string s] w fun e w' => ∃ (m : Nat) (x : Int), m = (s.size + 7) / 8 ∧ e = .returned (.tuple #[.int .u64 (8 * x + 1), .nilIface]) ∧
      Os w' q p b (B + G.k.toNat) G (M.obj N 2 (m + 1) x (strV s m) (m + 1)) (tgs tg N 2) (N + 1) (plus (Reach M) N) ∧ Turns (Own3 q p b) w w' := by
  have PK := Lib.hid (pack_str s hs w)
  have AL : Hid (∀ (m : Nat) w1, m = (s.size + 7) / 8 → Lies w1 w.heap.size 35 ((pks (byt s) s.size m s.size).map (.int .u64)) → Below w.heap.size w w1 → Calls Tryz.prog 64 #[.pointer (some ⟨q, 0, none⟩), .int .i64 2, .int .i64 2, .slice (some ⟨w.heap.size, 0, none⟩) (m + 1) (m + 1)] w1 fun e w' => ∃ x : Int, e = .returned (.tuple #[.int .u64 (8 * x + 1), .nilIface]) ∧
      Os w' q p b (B + G.k.toNat) G (M.obj N 2 (m + 1) x (strV s m) (m + 1)) (tgs tg N 2) (N + 1) (plus (Reach M) N) ∧ Turns (Own3 q p b) w1 w') := fun m w1 hm hl hb => by
    have hlt := o.lt
    have o1 := o.quiet (Turns.of_below hb (fun _ => False))
    refine oalloc_any o1 2 2 (m + 1) (m + 1) (strV s m) (strV_len s m) (by omega) (by omega) (by omega) (by omega) (by omega) hB (hN _ (cln_lt _)) (fun v hv => ?_) ?_
    · obtain ⟨x, rfl, hx⟩ := strV_mem hs hv
      exact ⟨trivial, fun e => absurd e (by omega), fun _ => ⟨x, rfl, hx⟩⟩
    · rw [strV_wd]
      intro j hj
      refine ⟨w.heap.size, 0, rfl, hl.lt, fun h => by unfold Own3 at h; omega, ?_⟩
      rw [hl.cell, Nat.zero_add, List.getElem?_map, List.getElem?_eq_getElem hj]
      simp [hj]
  clear o
  go_enter Tryz.func35, Tryz.ntmps35
  go_wp2_with (first
    | (go_at_call 69; refine PK.out.mono ?_; rintro e w1 ⟨m, hm0, rfl, hl1, hb1⟩; have hm := Lib.hid hm0; clear hm0)
    | (go_at_call 64; refine (AL.out m _ hm.out hl1 hb1).mono ?_; rintro e w2 ⟨x, rfl, hs2, ht2⟩))
  go_ret2
  exact ⟨m, x, hm.out, rfl, hs2, (Turns.of_below hb1 _).trans ht2⟩

/-- the bytes of a text, the first k of them laid -/
def txt (c : Nat → Int) (n k : Nat) : List Int := (List.range n).map (fun i => if i < k then c i else 0)
theorem txt_zero (c : Nat → Int) (n : Nat) : txt c n 0 = List.replicate n 0 := by
  apply List.ext_getElem
  · simp [txt]
  · intro i h1 h2
    simp [txt]
theorem txt_next (c : Nat → Int) (n k : Nat) : (txt c n k).set k (c k) = txt c n (k + 1) := by
  apply List.ext_getElem
  · simp [txt]
  · intro i h1 h2
    simp only [txt, List.getElem_set, List.getElem_map, List.getElem_range]
    by_cases e : k = i
    · rw [if_pos e, if_pos (by omega), e]
    · rw [if_neg e]
      by_cases e2 : i < k
      · rw [if_pos e2, if_pos (by omega)]
      · rw [if_neg e2, if_neg (by omega)]
theorem push_list : ∀ (l : List Int) (r : ByteArray), (l.foldl (fun r n => r.push (UInt8.ofNat n.toNat)) r).data.toList = r.data.toList ++ l.map (fun n => UInt8.ofNat n.toNat)
  | [], r => by simp
  | x :: l, r => by
    rw [List.foldl_cons, push_list l]
    simp [ByteArray.push]
theorem txt_all (s : ByteArray) : (txt (byt s) s.size s.size).foldl (fun r n => r.push (UInt8.ofNat n.toNat)) ByteArray.empty = s := by
  apply bytes_inj
  rw [push_list, show ByteArray.empty.data.toList = [] from rfl, List.nil_append]
  apply List.ext_getElem
  · simp [txt]
  · intro i h1 h2
    have hi : i < s.size := by simpa [txt] using h1
    simp [txt, hi, byt]
    rfl
end
end Go.Proofs.YtagedholocgahaaGreatDoor

namespace Go.Proofs.YtagedholocgahaaGreatDoor
open Go.ChangeShapes Go.WideShapes Go.ChangeAt Go.RowKit

theorem Tryz.infoU8 : (Tryz.prog.info? 5).map (fun i => (i.zero, i.size, i.bytes)) = some (some (.int .u8 0), 1, 1) := by kernel_rfl
theorem made_zero8 (n : Nat) : (madeCells #[Value.int .u8 0] n).toList = (List.replicate n (0 : Int)).map (Value.int .u8) := by
  rw [toList_madeCells_one]
  simp
section
variable {w w' : World} {q p b : Nat} {B : Int} {G : Geo} {M : Md} {tg : Nat → Int} {N : Nat} {K : Nat → Prop} {z : Nat}

/-- string(text), of a slice of its own -/
theorem conv_txt (s : ByteArray) (g c : Nat) (w : World) (hl : Lies w g 5 ((txt (byt s) s.size s.size).map (.int .u8))) :
    (convert 137 9 (.slice (some ⟨g, 0, none⟩) s.size c)).run Tryz.prog w = .ok (.string s) w := by
  rw [run_convert_bytes_string _ _ _ 5 _ _ _ Tryz.underlying137 Tryz.underlying5 Tryz.underlying9]
  have := run_bytesToString (P := Tryz.prog) w ⟨g, 0, none⟩ s.size c (txt (byt s) s.size s.size) (by
    have h := run_loadCells_list (P := Tryz.prog) (w := w) ⟨g, 0, none⟩ ((txt (byt s) s.size s.size).map (.int .u8)) (fun j v hj => by
      have hadd : (⟨g, 0, none⟩ : Addr).add j = ⟨g, j, none⟩ := by unfold Addr.add; split <;> simp_all
      rw [hadd, hl.cell, hj])
    have hlen : ((txt (byt s) s.size s.size).map (Value.int .u8)).length = s.size := by simp [txt]
    rw [hlen] at h
    exact h)
  rw [this, txt_all]

/-- the bits that are left of a word -/
def Left (c : Nat → Int) (n k : Nat) (x : Int) : Prop := 0 ≤ x ∧ x < 18446744073709551616 ∧ (k % 8 ≠ 0 → x = acc c n (k / 8) / pw (k % 8))
theorem Left.fresh {c : Nat → Int} {n k : Nat} (h : k % 8 = 0) : acc c n (k / 8) = acc c n (k / 8) / pw (k % 8) := by
  rw [h]
  show _ = _ / 1
  omega
theorem Left.byte {c : Nat → Int} (hc : Byt c) {n k : Nat} (hk : k < n) : acc c n (k / 8) / pw (k % 8) % 256 = c k := by
  have := acc_byte hc (n := n) (k := k / 8) (j := k % 8) (by omega) (by omega)
  rw [this, show 8 * (k / 8) + k % 8 = k by omega]
theorem Left.next {c : Nat → Int} (hc : Byt c) {n k : Nat} : Left c n (k + 1) (acc c n (k / 8) / pw (k % 8) / 256) := by
  obtain ⟨a0, a1⟩ := acc_at hc n (k / 8)
  have hp := pw_pos (k % 8)
  have h0 : 0 ≤ acc c n (k / 8) / pw (k % 8) := Int.ediv_nonneg a0 (by omega)
  have h1 : acc c n (k / 8) / pw (k % 8) ≤ acc c n (k / 8) := Int.ediv_le_self _ a0
  refine ⟨by omega, by omega, fun h => ?_⟩
  have e1 : (k + 1) / 8 = k / 8 := by omega
  have e2 : (k + 1) % 8 = k % 8 + 1 := by omega
  rw [e1, e2, (pw_bd (j := k % 8) (by omega)).2, Int.mul_comm 256 (pw (k % 8)), Int.ediv_ediv_of_nonneg (by omega)]

set_option maxHeartbeats 1000000 in
set_option maxRecDepth 100000 in
theorem unpack_str (o : Os w q p b B G M tg N K) (hz : K z) (s : ByteArray) (hs : s.size ≤ 500) (m : Nat) (hm : m = (s.size + 7) / 8) (hlen : M.len z = m + 1) (hf : ∀ k, k < m → M.fld z (k + 1) = .w (acc (byt s) s.size k)) :
    Calls Tryz.prog 71 #[.pointer (some ⟨q, 0, none⟩), .int .u64 (8 * M.cell z + 1), .int .i64 s.size] w fun e w' => e = .returned (.string s) ∧ Os w' q p b B G M tg N K ∧ Turns (Own3 q p b) w w' := by
  have hlt := o.lt
  have GG : Hid (∀ (k : Nat) w1, k < s.size → Os w1 q p b B G M tg N K → Calls Tryz.prog 22 #[.pointer (some ⟨q, 0, none⟩), .int .u64 (8 * M.cell z + 1), .int .i64 (1 + (k : Int) / 8)] w1 fun e w' =>
      e = .returned (.tuple #[.int .u64 (acc (byt s) s.size (k / 8)), .nilIface]) ∧ Os w' q p b B G M tg N K ∧ Turns (Own3 q p b) w1 w') := fun k w1 hk o1 => by
    have := o1.get (z := z) (j := k / 8 + 1) hz (by omega)
    rw [hf (k / 8) (by omega), show ((k / 8 + 1 : Nat) : Int) = 1 + (k : Int) / 8 by omega] at this
    exact this
  have hmk := run_make_row' (P := Tryz.prog) 137 5 (.int .u8 0) 1 Tryz.underlying137 Tryz.infoU8 rfl .i64 .i64 s.size (by omega) (by omega)
  have hl := Lies.made w 5 (madeCells #[Value.int .u8 0] s.size)
  rw [made_zero8, ← txt_zero (byt s)] at hl
  have o1 := o.alloc (.cells (madeCells #[Value.int .u8 0] s.size) 5)
  have ht1 := (Turns.refl (Own3 q p b) w).alloc (.cells (madeCells #[Value.int .u8 0] s.size) 5)
  have hgo : ¬ Own3 q p b w.heap.size := fun h => by unfold Own3 at h; omega
  have hgs : w.heap.size ≠ 0 := by
    have := o.tab.1
    omega
  have HL := Lib.hid hl
  have OO := Lib.hid o1
  have TT := Lib.hid ht1
  have CV := Lib.hid (fun w1 h1 => conv_txt s w.heap.size s.size w1 h1)
  have hs0 : (0 : Int) ≤ s.size := by omega
  clear o o1 hl ht1 hf hlen hm
  generalize 8 * M.cell z + 1 = x at *
  go_enter Tryz.func71, Tryz.ntmps71
  go_wp2_with fail
  generalize w.alloc (.cells (madeCells #[Value.int .u8 0] s.size) 5) = W1 at *
  go_loopw [8, 14] (fun bt v wr => ∃ (k : Nat) (y : Int), k ≤ s.size ∧ v = .int .i64 k ∧ bt = .int .u64 y ∧ Left (byt s) s.size k y ∧ Os wr q p b B G M tg N K ∧ Lies wr w.heap.size 5 ((txt (byt s) s.size k).map (.int .u8)) ∧ Turns (Own3 q p b) w wr) (fun _ v _ => s.size - (intOf v).toNat)
  case atStart => exact ⟨0, 0, by omega, rfl, rfl, ⟨by omega, by omega, fun h => absurd rfl h⟩, OO.out, HL.out, TT.out⟩
  case round =>
    obtain ⟨k, y, hk, rfl, rfl, hy, ho, hl, ht⟩ := hrel
    by_cases hks : k < s.size
    · have FIN : Hid (∀ w1, Os w1 q p b B G M tg N K → Lies w1 w.heap.size 5 ((txt (byt s) s.size k).map (.int .u8)) → Turns (Own3 q p b) w w1 → Os (w1.setCell ⟨w.heap.size, k, none⟩ (.int .u8 (byt s k))) q p b B G M tg N K ∧
          Lies (w1.setCell ⟨w.heap.size, k, none⟩ (.int .u8 (byt s k))) w.heap.size 5 ((txt (byt s) s.size (k + 1)).map (.int .u8)) ∧ Turns (Own3 q p b) w (w1.setCell ⟨w.heap.size, k, none⟩ (.int .u8 (byt s k)))) := fun w1 h1 h2 h3 => by
        refine ⟨h1.turns ((Turns.refl (fun g => g = w.heap.size) w1).setCell (p := ⟨w.heap.size, k, none⟩) (fun _ => rfl) _) (fun e => hgo (e ▸ .inl rfl)) (fun e => hgo (e ▸ .inr (.inl rfl))) (fun e => hgo (e ▸ .inr (.inr rfl))) (fun e => hgs e.symm), ?_, h3.setCell (p := ⟨w.heap.size, k, none⟩) (fun h => absurd h (Nat.lt_irrefl _)) _⟩
        have := h2.stored k (.int .u8 (byt s k))
        rw [← List.map_set, txt_next] at this
        exact this
      have CELL : Hid (∀ w1, Lies w1 w.heap.size 5 ((txt (byt s) s.size k).map (.int .u8)) → w1.cell? ⟨w.heap.size, k, none⟩ = some (.int .u8 0) ∧ w1.frozen? ⟨w.heap.size, k, none⟩ = false) := fun w1 h2 => by
        refine ⟨?_, h2.free k⟩
        rw [h2.cell, List.getElem?_map, List.getElem?_eq_getElem (by simp [txt, hks])]
        simp [txt]
      have hb8 := Left.byte (byt_byt s) hks
      have hnx := Left.next (byt_byt s) (n := s.size) (k := k)
      obtain ⟨a0, a1⟩ := acc_at (byt_byt s) s.size (k / 8)
      have hp := pw_pos (k % 8)
      by_cases h0 : k % 8 = 0
      · have e0 : ((k : Int) % 8 == 0) = true := by simp; omega
        have GK := Lib.hid (GG.out k wr hks ho)
        rw [← Left.fresh h0] at hb8 hnx
        have hw8 : IntKind.u8.wrap (acc (byt s) s.size (k / 8)) = byt s k := by rw [IntKind.wrap_u8]; exact hb8
        generalize acc (byt s) s.size (k / 8) = u at *
        generalize byt s k = v at *
        have HNX := Lib.hid hnx
        have LL := Lib.hid hl
        clear h0 hy ho hl hb8 hnx hp
        go_wp2_with (go_at_call 22; refine GK.out.mono ?_; rintro e w2 ⟨rfl, ho2, ht2⟩; have hl2 := LL.out.turns ht2 hgo; obtain ⟨hc2, hf2⟩ := CELL.out w2 hl2)
        obtain ⟨f1, f2, f3⟩ := FIN.out w2 ho2 hl2 (ht.trans ht2)
        go_roundw
        case rel => exact ⟨k + 1, u / 256, by omega, by go_num, rfl, HNX.out, f1, f2, f3⟩
        case measure => simp [intOf]; omega
      · have e0 : ((k : Int) % 8 == 0) = false := by simp; omega
        obtain ⟨y0, y1, y2⟩ := hy
        rw [← y2 h0] at hb8 hnx
        have hw8 : IntKind.u8.wrap y = byt s k := by rw [IntKind.wrap_u8]; exact hb8
        obtain ⟨hc2, hf2⟩ := CELL.out wr hl
        obtain ⟨f1, f2, f3⟩ := FIN.out wr ho hl ht
        have F1 := Lib.hid f1
        have F2 := Lib.hid f2
        have F3 := Lib.hid f3
        generalize byt s k = v at *
        have HNX := Lib.hid hnx
        clear h0 ho hl hb8 hnx hp y2 f1 f2 f3
        go_wp2_with fail
        go_roundw
        case rel => exact ⟨k + 1, y / 256, by omega, by go_num, rfl, HNX.out, F1.out, F2.out, F3.out⟩
        case measure => simp [intOf]; omega
    · obtain rfl : k = s.size := by omega
      have cv := CV.out wr hl
      go_wp2_with fail
      go_ret
      exact ⟨rfl, ho, ht⟩

/-- a string's text -/
theorem text_str (o : Os w q p b B G M tg N K) (hz : K z) (s : ByteArray) (hs : s.size ≤ 500) (m : Nat) (hm : m = (s.size + 7) / 8) (h1 : M.form z = 2) (h2 : tg z = 2) (hlen : M.len z = m + 1) (h0 : M.fld z 0 = .w s.size) (hf : ∀ k, k < m → M.fld z (k + 1) = .w (acc (byt s) s.size k)) :
    Calls Tryz.prog 36 #[.pointer (some ⟨q, 0, none⟩), .int .u64 (8 * M.cell z + 1)] w fun e w' => e = .returned (.tuple #[.string s, .nilIface]) ∧ Os w' q p b B G M tg N K ∧ Turns (Own3 q p b) w w' := by
  have SH := Lib.hid (o.shape hz)
  rw [h1, h2, hlen, show ((m + 1 : Nat) : Int) = (m : Int) + 1 by omega] at SH
  have GG : Hid (∀ w1, Os w1 q p b B G M tg N K → Calls Tryz.prog 22 #[.pointer (some ⟨q, 0, none⟩), .int .u64 (8 * M.cell z + 1), .int .i64 0] w1 fun e w' =>
      e = .returned (.tuple #[.int .u64 s.size, .nilIface]) ∧ Os w' q p b B G M tg N K ∧ Turns (Own3 q p b) w1 w') := fun w1 o1 => by
    have := o1.get (z := z) (j := 0) hz (by omega)
    rw [h0] at this
    exact this
  have UN := Lib.hid (fun w1 (o1 : Os w1 q p b B G M tg N K) => unpack_str o1 hz s hs m hm hlen hf)
  have IS := Lib.hid (fun w => isString_is 2 2 true (by simp) w)
  have e1 : (m : Int) + 1 - 1 = m := by omega
  have e2 : ((s.size : Int) > (m : Int) * 8) = False := by simp; omega
  have e3 : ¬ ((m : Int) * 8 < s.size) := by omega
  have m0 : (0 : Int) ≤ m := by omega
  have m1 : (m : Int) ≤ 64 := by omega
  have hm' := Lib.hid hm
  clear o hf h0 hlen h1 h2 hm
  generalize 8 * M.cell z + 1 = x at *
  go_enter Tryz.func36, Tryz.ntmps36
  go_wp2_with (first
    | (go_at_call 46; refine SH.out.mono ?_; rintro e w1 ⟨rfl, ho1, ht1⟩)
    | (go_at_call 70; refine (IS.out _).mono ?_; rintro e w' ⟨rfl, rfl⟩)
    | (go_at_call 22; refine (GG.out _ ho1).mono ?_; rintro e w2 ⟨rfl, ho2, ht2⟩)
    | (go_at_call 71; refine (UN.out _ ho2).mono ?_; rintro e w3 ⟨rfl, ho3, ht3⟩))
  go_ret2
  exact ⟨rfl, ho3, (ht1.trans ht2).trans ht3⟩

/-- the list of one pair -/
theorem list_one (o : Os w q p b B G M tg N K) (hz : K z) (a : Int) (h1 : M.form z = 1) (h2 : tg z = 1) (hlen : M.len z = 2) (f0 : M.fld z 0 = .w a) (f1 : M.fld z 1 = .w 4) :
    Calls Tryz.prog 60 #[.pointer (some ⟨q, 0, none⟩), .int .u64 (8 * M.cell z + 1), .int .i64 5] w fun e w' => ∃ (A : Option Addr) (c : Nat), e = .returned (.tuple #[.slice A 1 c, .nilIface]) ∧ Os w' q p b B G M tg N K ∧ Turns (Own3 q p b) w w' := by
  have hlt := o.lt
  have IP := Lib.hid (fun w1 (o1 : Os w1 q p b B G M tg N K) => isPair_of o1 hz h1 h2)
  have IN := Lib.hid (fun w1 (o1 : Os w1 q p b B G M tg N K) => isPair_nil o1)
  have G0 : Hid (∀ w1, Os w1 q p b B G M tg N K → Calls Tryz.prog 22 #[.pointer (some ⟨q, 0, none⟩), .int .u64 (8 * M.cell z + 1), .int .i64 0] w1 fun e w' =>
      e = .returned (.tuple #[.int .u64 a, .nilIface]) ∧ Os w' q p b B G M tg N K ∧ Turns (Own3 q p b) w1 w') := fun w1 o1 => by
    have := o1.get (z := z) (j := 0) hz (by omega)
    rw [f0] at this
    exact this
  have G1 : Hid (∀ w1, Os w1 q p b B G M tg N K → Calls Tryz.prog 22 #[.pointer (some ⟨q, 0, none⟩), .int .u64 (8 * M.cell z + 1), .int .i64 1] w1 fun e w' =>
      e = .returned (.tuple #[.int .u64 4, .nilIface]) ∧ Os w' q p b B G M tg N K ∧ Turns (Own3 q p b) w1 w') := fun w1 o1 => by
    have := o1.get (z := z) (j := 1) hz (by omega)
    rw [f1] at this
    exact this
  have NL := Lib.hid (fun w => nil_any w)
  have e4 : (8 * M.cell z + 1 == 4) = false := by simp; omega
  have OO := Lib.hid o
  clear o f0 f1 hlen h1 h2
  generalize 8 * M.cell z + 1 = x at *
  go_enter Tryz.func60, Tryz.ntmps60
  go_wp2_with (first
    | (go_at_call 39; refine (NL.out _).mono ?_; rintro e w' ⟨rfl, rfl⟩))
  refine wp_loop_rounds 2 ?_
  rw [rounds_succ]
  go_wp2_with (first
    | (go_at_call 105; refine (IP.out _ OO.out).mono ?_; rintro e w1 ⟨rfl, ho1, ht1⟩)
    | (go_at_call 22; (with_reducible refine (G0.out _ ho1).mono ?_); rintro e w2 ⟨rfl, ho2, ht2⟩)
    | (go_at_call 22; (with_reducible refine (G1.out _ ho2).mono ?_); rintro e w3 ⟨rfl, ho3, ht3⟩)
    | (refine wpList_append_words (v := .slice none 0 0) (x := .slice (some ⟨w3.heap.size, 0, none⟩) 1 1) rfl _ _ 59 rfl Tryz.underlying59 rfl rfl (OwnW.none_ (w3.alloc (.cells #[.int .u64 a] 35)) w3.heap.size) (OwnW.one (B := w3.heap.size) w3 a (Nat.le_refl _)) (by simp) (by simp) ?_
       intro v4 w4 hown4 hg4 hat4
       obtain ⟨A4, c4, rfl, -⟩ := hown4.read
       have ht4 : Turns (fun _ => False) w3 w4 := ((Turns.refl (fun _ => False) w3).alloc _).grown hg4 (fun i hi hlt => by simp [Value.ownBlock] at hi)
       have ho4 := ho3.quiet ht4))
  rw [rounds_succ]
  go_wp2_with (first
    | (go_at_call 105; refine (IN.out _ ho4).mono ?_; rintro e w5 ⟨rfl, ho5, ht5⟩)
    | (go_at_call 39; refine (NL.out _).mono ?_; rintro e w' ⟨rfl, rfl⟩))
  go_ret2
  exact ⟨A4, c4, rfl, ho5, (((ht1.trans ht2).trans ht3).trans (ht4.mono fun _ _ h => h.elim)).trans ht5⟩
end
end Go.Proofs.YtagedholocgahaaGreatDoor
