/- What package fix's Text and the document's own give: the same numeral. -/
import Derived.Test.YtbkjmmeipbbaaaaDoorFixRef
import Derived.Test.YtbkjmmeipbbaaaaDoorFixCallsC
import Derived.Test.YtbkjmmeipbbaaaaDoorFixDigits
import Derived.Test.YtbkjmmeipbbaaaaDoorShelf
import Derived.Lib.AppendIntMem
import Derived.WalkSpells
import Derived.Laws.BytesString
namespace Go.Proofs.YtbkjmmeipbbaaaaDoor
open Go.ChangeShapes Go.WideShapes Go.ChangeAt Go.RowKit

/-- the table of the library's that Itoa reads stands -/
def Tab (w : World) : Prop := Lib.TabIs Tryd.prog w "internal/strconv.uint64pow10" .u64 Lib.pow10Tab
/-- the world went on: what was there stands -/
def Went (w w' : World) : Prop := Below w.heap.size w w'
theorem Went.refl (w : World) : Went w w := Below.refl _ _
theorem Went.trans {a b c : World} (h : Went a b) (k : Went b c) : Went a c := Below.trans h (Below.mono k (Below.size h))
theorem Went.same {a b c : World} (h : Went a b) (k : b = c) : Went a c := k ▸ h
theorem Went.of_drew {w w' : World} (h : Went w.drew w') : Went w w' := ⟨h.os, h.tape, h.output, h.size, h.block⟩
theorem Tab.on {w w' : World} (h : Tab w) (k : Went w w') : Tab w' := (Lib.tabBelow_of_tabIs h) w' k

theorem text_any (n : Int) (h0 : -9223372036854775808 ≤ n) (h1 : n ≤ 9223372036854775807) (w : World) (ht : Tab w) :
    Calls Tryd.prog 27 #[.int .i64 n] w fun e w' => e = .returned (.string ⟨(Lib.itoa n).toArray⟩) ∧ Went w w' := by
  have H := fun w ht => Tryd.strconv_Itoa n h0 h1 w ht
  have H' := Lib.hid H
  clear H
  go_enter Tryd.func27, Tryd.ntmps27
  go_wp2_with (go_at_call 40; refine (H'.out _ ht).mono ?_; rintro e w' ⟨rfl, k, os, rfl⟩)
  go_ret
  exact ⟨rfl, Lib.below_grow _ _ (Nat.le_refl _) k os⟩

/-- string([]byte{x}) -/
theorem conv_one (w : World) (x : Int) :
    (convert 92 9 (.slice (some ⟨w.heap.size, 0, none⟩) 1 1)).run Tryd.prog (w.alloc (.cells #[.int .u8 x] 5))
      = .ok (.string (ByteArray.empty.push (UInt8.ofNat x.toNat))) (w.alloc (.cells #[.int .u8 x] 5)) := by
  rw [run_convert_bytes_string _ _ _ 5 _ _ _ Tryd.underlying92 Tryd.underlying5 Tryd.underlying9]
  exact run_bytesToString (P := Tryd.prog) (w.alloc (.cells #[.int .u8 x] 5)) ⟨w.heap.size, 0, none⟩ 1 1 [x] (run_loadCells_list _ _ [.int .u8 x] (fun j v hj => by
    obtain ⟨rfl, rfl⟩ : j = 0 ∧ Value.int .u8 x = v := by
      have h1 := (List.getElem?_eq_some_iff.1 hj).1
      simp only [List.length_cons, List.length_nil] at h1
      obtain rfl : j = 0 := by omega
      exact ⟨rfl, by simpa using hj⟩
    go_simp))

/-- one digit more ahead -/
theorem digit_eq (v : Nat) : (48 : UInt8) + UInt8.ofNat (v % 10) = UInt8.ofNat (48 + v % 10) := by
  rw [UInt8.ofNat_add]; rfl
theorem push_data (c : UInt8) (b : ByteArray) : (ByteArray.empty.push c ++ b).data.toList = c :: b.data.toList := by
  rw [ByteArray.data_append]; simp [ByteArray.empty, ByteArray.emptyWithCapacity]; rfl
theorem txt_step {u v : Nat} {b : ByteArray} (h : ¬ v < 10) (H : Lib.decDigits u = Lib.decDigits v ++ b.data.toList) :
    Lib.decDigits u = Lib.decDigits (v / 10) ++ (ByteArray.empty.push (48 + UInt8.ofNat (v % 10)) ++ b).data.toList := by
  rw [H, Lib.decDigits, dif_neg h, push_data, digit_eq]; simp
theorem txt_end {u v : Nat} {b : ByteArray} (h : v < 10) (H : Lib.decDigits u = Lib.decDigits v ++ b.data.toList) :
    Lib.decDigits u = (ByteArray.empty.push (48 + UInt8.ofNat (v % 10)) ++ b).data.toList := by
  rw [H, Lib.decDigits, dif_pos h, push_data, digit_eq, Nat.mod_eq_of_lt h]; simp
theorem txt_len {u : Nat} (hu : (u : Int) ≤ 9223372036854775808) {l : List UInt8} {b : ByteArray} (H : Lib.decDigits u = l ++ b.data.toList) : b.size ≤ 20 := by
  have h1 := (FM.dec_len u (by omega)).2
  rw [H, List.length_append] at h1
  have : b.data.toList.length = b.size := by simp
  omega
theorem itoa_minus {n : Int} {u : Nat} (hn : n < 0) (hu : n.natAbs = u) {b : ByteArray} (h : Lib.decDigits u = b.data.toList) : (⟨#[45]⟩ ++ b : ByteArray) = ⟨(Lib.itoa n).toArray⟩ := by
  apply bytes_inj
  rw [Lib.itoa, if_pos hn, hu, h, ByteArray.data_append]; simp
theorem itoa_plain {n : Int} {u : Nat} (hn : ¬ n < 0) (hu : n.toNat = u) {b : ByteArray} (h : Lib.decDigits u = b.data.toList) : b = ⟨(Lib.itoa n).toArray⟩ := by
  apply bytes_inj
  rw [Lib.itoa, if_neg hn, hu, h]
theorem ret_s {a b : ByteArray} (h : a = b) : Ending.returned (.string a) = .returned (.string b) := by rw [h]

theorem rtext_any (n : Int) (h0 : -9223372036854775808 ≤ n) (h1 : n ≤ 9223372036854775807) (w : World) :
    Calls Tryd.prog 30 #[.int .i64 n] w fun e w' => e = .returned (.string ⟨(Lib.itoa n).toArray⟩) ∧ Went w w' := by
  have hcv := conv_one
  by_cases hn : n < 0
  · have e1 : IntKind.u64.wrap (-IntKind.u64.wrap n) = (n.natAbs : Int) := by rw [IntKind.wrap_u64, IntKind.wrap_u64]; omega
    have hb : (n.natAbs : Int) ≤ 9223372036854775808 := by omega
    generalize hu : n.natAbs = u at *
    have hu' := Lib.hid hu
    clear hu
    go_enter Tryd.func30, Tryd.ntmps30
    go_wp2
    go_loopw [3, 4] (fun x s wr => ∃ (v : Nat) (b : ByteArray), (v : Int) ≤ u ∧ x = .int .u64 v ∧ s = .string b ∧ Hid (Lib.decDigits u = Lib.decDigits v ++ b.data.toList) ∧ Below w.heap.size w wr) (fun x _ _ => (intOf x).toNat)
    case atStart => exact ⟨u, _, by omega, rfl, rfl, by simp [Hid], Below.refl _ _⟩
    case round =>
      obtain ⟨v, b, hv, rfl, rfl, H, hbw⟩ := hrel
      have hbz := txt_len hb H.out
      have hsz := hbw.size
      by_cases h10 : v < 10
      · have he := Lib.hid (txt_end h10 H.out)
        have hz : ((v : Int) / 10 == 0) = true := by simp; omega
        go_wp2
        go_ret
        exact ⟨ret_s (itoa_minus hn hu'.out he.out), hbw.alloc hsz _⟩
      · have he := Lib.hid (txt_step h10 H.out)
        have hz : ((v : Int) / 10 == 0) = false := by simp; omega
        go_wp2
        go_roundw
        case rel => exact ⟨v / 10, _, by omega, by go_num, rfl, he, hbw.alloc hsz _⟩
        case measure => simp [intOf]; omega
  · have e1 : IntKind.u64.wrap n = (n.toNat : Int) := by rw [IntKind.wrap_u64]; omega
    have hb : (n.toNat : Int) ≤ 9223372036854775808 := by omega
    generalize hu : n.toNat = u at *
    have hu' := Lib.hid hu
    clear hu
    go_enter Tryd.func30, Tryd.ntmps30
    go_wp2
    go_loopw [3, 4] (fun x s wr => ∃ (v : Nat) (b : ByteArray), (v : Int) ≤ u ∧ x = .int .u64 v ∧ s = .string b ∧ Hid (Lib.decDigits u = Lib.decDigits v ++ b.data.toList) ∧ Below w.heap.size w wr) (fun x _ _ => (intOf x).toNat)
    case atStart => exact ⟨u, _, by omega, rfl, rfl, by simp [Hid], Below.refl _ _⟩
    case round =>
      obtain ⟨v, b, hv, rfl, rfl, H, hbw⟩ := hrel
      have hbz := txt_len hb H.out
      have hsz := hbw.size
      by_cases h10 : v < 10
      · have he := Lib.hid (txt_end h10 H.out)
        have hz : ((v : Int) / 10 == 0) = true := by simp; omega
        go_wp2
        go_ret
        exact ⟨ret_s (itoa_plain (by omega) hu'.out he.out), hbw.alloc hsz _⟩
      · have he := Lib.hid (txt_step h10 H.out)
        have hz : ((v : Int) / 10 == 0) = false := by simp; omega
        go_wp2
        go_roundw
        case rel => exact ⟨v / 10, _, by omega, by go_num, rfl, he, hbw.alloc hsz _⟩
        case measure => simp [intOf]; omega
end Go.Proofs.YtbkjmmeipbbaaaaDoor
