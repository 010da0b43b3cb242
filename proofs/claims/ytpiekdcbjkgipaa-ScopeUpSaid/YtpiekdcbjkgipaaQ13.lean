/- A map from ints to ints that the call itself has made, by what it holds at each key (0: nothing), and how many keys it has. -/
import Derived.Test.YtpiekdcbjkgipaaQ9
import Derived.Maps.OwnSet
import Derived.Test.YtpiekdcbjkgipaaRows
import Derived.Test.YtpiekdcbjkgipaaQ2
import Derived.WalkKit
import Derived.ProofKit
import Derived.OpenShut
import Derived.Deep.QuietTactic
import Derived.BigQuiet
import Derived.Lib.Hide
import Derived.Lib.AppendIntMem
import Derived.WalkSpells
import Derived.Laws.BytesString
import Derived.Test.YtpiekdcbjkgipaaQ8
import Derived.Test.YtpiekdcbjkgipaaQ7
import Derived.Deep.RegionHeld3
import Derived.Deep.RegionWith
namespace Go.Proofs.Ytpiekdcbjkgipaa
open Go.RowKit Go.Maps

theorem Try.keyLaw : Keyed Try.prog 3 := int_keyed Try.underlying3
theorem Try.zeroInt (w : World) : (zeroValue 3).run Try.prog w = .ok (.int .i64 0) w := by kernel_rfl

/-- block q is a map of n keys: at the key a it holds S a, unless that is 0 -/
def Im (w : World) (q n : Nat) (S : Int → Int) : Prop :=
  ∃ D : DataW Unit, w.ownsMap Try.prog 3 (plainElem Try.prog 3) q n D ∧ Maps.size D = n ∧ ∀ a, Maps.has D (.int .i64 a) = decide (S a ≠ 0) ∧ D.atKey (.int .i64 a) (.lit (.int .i64 0)) = .lit (.int .i64 (S a))
def setS (S : Int → Int) (a k : Int) : Int → Int := fun b => if b = a then k else S b

section
variable {w w' : World} {q n : Nat} {S : Int → Int}
theorem Im.made (w : World) : Im (w.alloc (.map #[] 0)) w.heap.size 0 (fun _ => 0) :=
  ⟨.map [], World.ownsMap_made w _ _ _, rfl, fun _ => ⟨rfl, rfl⟩⟩
theorem Im.lt (h : Im w q n S) : q < w.heap.size := by
  obtain ⟨D, h, _⟩ := h
  exact h.lt
theorem Im.turns {X : Nat → Prop} (h : Im w q n S) (k : Turns X w w') (hx : ¬ X q) : Im w' q n S := by
  have hlt := h.lt
  obtain ⟨D, ⟨es, clock, hb, r⟩, hD⟩ := h
  exact ⟨D, ⟨es, clock, (k.block q hlt hx).trans hb, r⟩, hD⟩
theorem Im.below (h : Im w q n S) (k : Below w.heap.size w w') : Im w' q n S := h.turns (Turns.of_below k (fun _ => False)) (fun h => h)
theorem Im.apart {g : Nat} {t : TypeId} {cs : List Value} (h : Im w q n S) (k : Lies w g t cs) : q ≠ g := by
  intro e
  subst e
  obtain ⟨D, ⟨es, clock, hb, _⟩, _⟩ := h
  unfold Lies at k
  rw [hb] at k
  cases k
theorem Im.not_row {e : TypeId} {B sz m : Nat} {v : Value} {cs : List Value} (h : Im w q n S) (k : w.ownsRow B e sz v m cs) : v.ownBlock ≠ some q := by
  intro hj
  rcases k.2 with ⟨rfl, _⟩ | ⟨g', cap, cur, rfl, _, hh, _⟩
  · simp [Value.ownBlock] at hj
  · have : g' = q := by simpa [Value.ownBlock] using hj
    subst this
    obtain ⟨D, ⟨es, clock, hb, _⟩, _⟩ := h
    rw [hb] at hh
    cases hh
set_option maxRecDepth 100000 in
theorem wf64 {a : Int} (h : -9223372036854775808 ≤ a ∧ a ≤ 9223372036854775807) : (Lit.int .i64 a).wf = true := by
  simp [Lit.wf, show IntKind.i64.min = -9223372036854775808 by decide +kernel, show IntKind.i64.max = 9223372036854775807 by decide +kernel]
  exact h
set_option maxRecDepth 100000 in
/-- m[b] -/
theorem Im.look (h : Im w q n S) {t : TypeId} (ht : Try.prog.underlying t = some (.map 3 3)) {b : Int} (hb : -9223372036854775808 ≤ b ∧ b ≤ 9223372036854775807) :
    (Instr.lookup t (.map (some q)) (.int .i64 b) false).run Try.prog w = .ok (.int .i64 (S b)) w := by
  obtain ⟨D, h1, h2, h3⟩ := h
  obtain ⟨c, hrun, hat, -⟩ := h1.lookup_int Try.keyLaw ht Try.underlying3 (Try.zeroInt w) (keyOf_int_mk Try.underlying3 (wf64 hb))
  rw [(h3 b).2] at hat
  injection hat with hat
  injection hat with _ hat
  rw [hrun, hat]
/-- len(m) -/
theorem Im.len (h : Im w q n S) {t : TypeId} (ht : Try.prog.underlying t = some (.map 3 3)) (ty : TypeId) :
    (Builtin.len_ #[t] ty #[.map (some q)]).run Try.prog w = .ok (.int .i64 n) w := by
  obtain ⟨D, h1, h2, h3⟩ := h
  rw [h1.len ht ty, h2]
theorem wf_inj {a b : Int} (h : a ≠ b) : Lit.int IntKind.i64 a ≠ Lit.int IntKind.i64 b := fun e => h (by injection e)
set_option maxRecDepth 100000 in
/-- m[b] = k -/
theorem Im.put (h : Im w q n S) {t : TypeId} (ht : Try.prog.underlying t = some (.map 3 3)) (hn : n ≤ 1000000000) {b k : Int} (hb : -9223372036854775808 ≤ b ∧ b ≤ 9223372036854775807) (hk : -9223372036854775808 ≤ k ∧ k ≤ 9223372036854775807) (h0 : k ≠ 0) :
    ∃ w', (Instr.mapUpdate t (.map (some q)) (.int .i64 b) (.int .i64 k)).run Try.prog w = .ok () w' ∧ Im w' q (if S b = 0 then n + 1 else n) (setS S b k) ∧ Turns (fun g => g = q) w w' := by
  obtain ⟨D, h1, h2, h3⟩ := h
  obtain ⟨w', hrun, hown, hg⟩ := h1.update Try.keyLaw ht (by unfold maxLen; omega) (keyOf_int_mk Try.underlying3 (wf64 hb)) (plainElem_int Try.underlying3 (wf64 hk))
  have hs : Maps.size (D.put (.int .i64 b) (.lit (.int .i64 k))) = if S b = 0 then n + 1 else n := by
    rw [size_put (h1.tidy Try.keyLaw), (h3 b).1, h2]
    by_cases e : S b = 0 <;> simp [e]
  refine ⟨w', hrun, ⟨D.put (.int .i64 b) (.lit (.int .i64 k)), ?_, hs, fun a => ?_⟩, (Turns.refl _ w).grown hg (fun g e _ => by injection e with e; exact e.symm)⟩
  · obtain ⟨es, clock, hbk, F, _, e⟩ := hown
    refine ⟨es, clock, hbk, F, ?_, e⟩
    rw [← hs, e]
    simp [Maps.size, length_sorted]
  · by_cases e : a = b
    · subst e
      refine ⟨by rw [has_put_same h1.isMap (k := .int .i64 a) trivial]; simp [setS, h0], by rw [atKey_put_same h1.isMap (k := .int .i64 a) trivial]; simp [setS]⟩
    · refine ⟨by rw [has_put_other (wf_inj e), (h3 a).1]; simp [setS, e], by rw [atKey_put_other (wf_inj e), (h3 a).2]; simp [setS, e]⟩
end
end Go.Proofs.Ytpiekdcbjkgipaa

/- What each call of package fix on two numbers gives: one contract a function. -/
namespace Go.Proofs.Ytpiekdcbjkgipaa
open Go.ChangeShapes Go.WideShapes Go.ChangeAt Go.RowKit

theorem ret_i {k : IntKind} {a b : Int} (h : a = b) : Ending.returned (.int k a) = .returned (.int k b) := by rw [h]
theorem ret_b {a b : Bool} (h : a = b) : Ending.returned (.bool a) = .returned (.bool b) := by rw [h]
/-- the error of that kind, or none -/
def er (k : Int) : Value := if k = 0 then .nilIface else .iface 42 (.int .i64 k)
/-- a number and an error -/
def ans (p : Int × Int) : Value := .tuple #[.int .i64 p.1, er p.2]
theorem ans_yes (n : Int) : ans (n, 0) = .tuple #[.int .i64 n, .nilIface] := rfl
theorem ans_no (n k : Int) (h : k ≠ 0) : ans (n, k) = .tuple #[.int .i64 n, .iface 42 (.int .i64 k)] := by unfold ans er; simp only [if_neg h]

theorem isNumber_any (a : Int) (w : World) :
    Calls Try.prog 84 #[.int .i64 a] w fun e w' => e = .returned (.bool (FM.num a)) ∧ w = w' := by
  go_enter Try.func84, Try.ntmps84
  go_wp2
  all_goals
    go_ret
    refine ⟨ret_b ?_, rfl⟩
    simp [FM.num] <;> omega

theorem bounded_any (a : Int) (w : World) :
    Calls Try.prog 85 #[.int .i64 a] w fun e w' => e = .returned (ans (FM.bd a)) ∧ w = w' := by
  cases h : FM.num a
  · rw [FM.bd, h, if_neg (by simp), ans_no _ _ (by omega)]
    go_enter Try.func85, Try.ntmps85
    go_wp2_with (go_at_call 84; refine (isNumber_any _ _).mono ?_; rintro e w' ⟨rfl, rfl⟩)
    go_ret2
    exact ⟨rfl, rfl⟩
  · rw [FM.bd, h, if_pos rfl, ans_yes]
    go_enter Try.func85, Try.ntmps85
    go_wp2_with (go_at_call 84; refine (isNumber_any _ _).mono ?_; rintro e w' ⟨rfl, rfl⟩)
    go_ret2
    exact ⟨rfl, rfl⟩
end Go.Proofs.Ytpiekdcbjkgipaa

/- What the six calls of package fix on two numbers give: one contract each. -/
namespace Go.Proofs.Ytpiekdcbjkgipaa
open Go.ChangeShapes Go.WideShapes Go.ChangeAt Go.RowKit

theorem both_no {a b : Int} (h : FM.num a = false ∨ FM.num b = false) (x : Int × Int) : FM.both a b x = (0, 2) := by
  unfold FM.both; rcases h with h | h <;> simp [h]
theorem both_yes {a b : Int} (ha : FM.num a = true) (hb : FM.num b = true) (x : Int × Int) : FM.both a b x = x := by
  unfold FM.both; simp [ha, hb]

theorem add_any (a b : Int) (w : World) :
    Calls Try.prog 80 #[.int .i64 a, .int .i64 b] w fun e w' => e = .returned (ans (FM.add a b)) ∧ w = w' := by
  cases ha : FM.num a
  · rw [FM.add, both_no (.inl ha), ans_no _ _ (by omega)]
    go_enter Try.func80, Try.ntmps80
    go_wp2_with (go_at_call 84; refine (isNumber_any _ _).mono ?_; rintro e w' ⟨rfl, rfl⟩)
    go_ret2
    exact ⟨rfl, rfl⟩
  · cases hb : FM.num b
    · rw [FM.add, both_no (.inr hb), ans_no _ _ (by omega)]
      go_enter Try.func80, Try.ntmps80
      go_wp2_with (go_at_call 84; refine (isNumber_any _ _).mono ?_; rintro e w' ⟨rfl, rfl⟩)
      go_ret2
      exact ⟨rfl, rfl⟩
    · rw [FM.add, both_yes ha hb]
      have h1 := FM.num_yes ha
      have h2 := FM.num_yes hb
      go_enter Try.func80, Try.ntmps80
      go_wp2_with (first
        | (go_at_call 84; refine (isNumber_any _ _).mono ?_; rintro e w' ⟨rfl, rfl⟩)
        | (go_at_call 85; refine (bounded_any _ _).mono ?_; rintro e w' ⟨rfl, rfl⟩; unfold ans))
      go_ret2
      exact ⟨rfl, rfl⟩

end Go.Proofs.Ytpiekdcbjkgipaa

/- What Mul and the divisions of package fix give. -/
namespace Go.Proofs.Ytpiekdcbjkgipaa
open Go.ChangeShapes Go.WideShapes Go.ChangeAt Go.RowKit

theorem mul_any (a b : Int) (w : World) :
    Calls Try.prog 79 #[.int .i64 a, .int .i64 b] w fun e w' => e = .returned (ans (FM.mul a b)) ∧ w = w' := by
  cases ha : FM.num a
  · rw [FM.mul, both_no (.inl ha), ans_no _ _ (by omega)]
    go_enter Try.func79, Try.ntmps79
    go_wp2_with (go_at_call 84; refine (isNumber_any _ _).mono ?_; rintro e w' ⟨rfl, rfl⟩)
    go_ret2
    exact ⟨rfl, rfl⟩
  · cases hb : FM.num b
    · rw [FM.mul, both_no (.inr hb), ans_no _ _ (by omega)]
      go_enter Try.func79, Try.ntmps79
      go_wp2_with (go_at_call 84; refine (isNumber_any _ _).mono ?_; rintro e w' ⟨rfl, rfl⟩)
      go_ret2
      exact ⟨rfl, rfl⟩
    · rw [FM.mul, both_yes ha hb]
      by_cases h0 : a = 0
      · subst h0
        rw [Int.zero_mul]
        go_enter Try.func79, Try.ntmps79
        go_wp2_with (first
          | (go_at_call 84; refine (isNumber_any _ _).mono ?_; rintro e w' ⟨rfl, rfl⟩)
          | (go_at_call 85; refine (bounded_any _ _).mono ?_; rintro e w' ⟨rfl, rfl⟩; unfold ans))
        go_ret2
        exact ⟨rfl, rfl⟩
      · have ht : (a != 0) = true := by simpa using h0
        by_cases hq : wrap64 ((wrap64 (a * b)).tdiv a) = b
        · have hz := FM.mul_way_yes a b ha hb h0 hq
          have hq' : (wrap64 ((wrap64 (a * b)).tdiv a) != b) = false := by simpa using hq
          rw [← hz]
          clear hz hq
          have h0' : a < 0 ∨ 0 < a := by omega
          go_enter Try.func79, Try.ntmps79
          go_wp2_with (first
            | (go_at_call 84; refine (isNumber_any _ _).mono ?_; rintro e w' ⟨rfl, rfl⟩)
            | (go_at_call 85; refine (bounded_any _ _).mono ?_; rintro e w' ⟨rfl, rfl⟩; unfold ans))
          go_ret2
          exact ⟨rfl, rfl⟩
        · rw [FM.mul_way_no a b ha hb h0 hq, ans_no _ _ (by omega)]
          have hq' : (wrap64 ((wrap64 (a * b)).tdiv a) != b) = true := by simpa using hq
          clear hq
          have h0' : a < 0 ∨ 0 < a := by omega
          go_enter Try.func79, Try.ntmps79
          go_wp2_with (first
            | (go_at_call 84; refine (isNumber_any _ _).mono ?_; rintro e w' ⟨rfl, rfl⟩)
            | (go_at_call 85; refine (bounded_any _ _).mono ?_; rintro e w' ⟨rfl, rfl⟩; unfold ans))
          go_ret2
          exact ⟨rfl, rfl⟩

/-- the three divisions -/
def dv (k a b : Int) : Int × Int := if k = 3 then FM.mod a b else if k = 2 then FM.rem a b else FM.quo a b
theorem dv_no {a b : Int} (k : Int) (h : FM.num a = false ∨ FM.num b = false) : dv k a b = (0, 2) := by
  unfold dv FM.mod FM.rem FM.quo; simp only [both_no h, ite_self]
theorem dv_nought {a b : Int} (k : Int) (ha : FM.num a = true) (hb : FM.num b = true) (h : b = 0) : dv k a b = (0, 12) := by
  unfold dv FM.mod FM.rem FM.quo; simp only [both_yes ha hb, if_pos h, ite_self]
end Go.Proofs.Ytpiekdcbjkgipaa

/- What the document's own answers for layer 2 are on two numbers: one contract each. -/
namespace Go.Proofs.Ytpiekdcbjkgipaa
open Go.ChangeShapes Go.WideShapes Go.ChangeAt Go.RowKit

/-- a number and the kind of an error -/
def two (p : Int × Int) : Value := .tuple #[.int .i64 p.1, .int .i64 p.2]

end Go.Proofs.Ytpiekdcbjkgipaa

/- What package fix's Text and the document's own give: the same numeral. -/
namespace Go.Proofs.Ytpiekdcbjkgipaa
open Go.ChangeShapes Go.WideShapes Go.ChangeAt Go.RowKit

/-- the table of the library's that Itoa reads stands -/
def Tab (w : World) : Prop := Lib.TabIs Try.prog w "internal/strconv.uint64pow10" .u64 Lib.pow10Tab
/-- the world went on: what was there stands -/
def Went (w w' : World) : Prop := Below w.heap.size w w'
theorem Went.refl (w : World) : Went w w := Below.refl _ _
theorem Went.trans {a b c : World} (h : Went a b) (k : Went b c) : Went a c := Below.trans h (Below.mono k (Below.size h))
theorem Went.same {a b c : World} (h : Went a b) (k : b = c) : Went a c := k ▸ h
theorem Went.of_drew {w w' : World} (h : Went w.drew w') : Went w w' := ⟨h.os, h.tape, h.output, h.size, h.block⟩
theorem Tab.on {w w' : World} (h : Tab w) (k : Went w w') : Tab w' := (Lib.tabBelow_of_tabIs h) w' k

/-- string([]byte{x}) -/
theorem conv_one (w : World) (x : Int) :
    (convert 22 9 (.slice (some ⟨w.heap.size, 0, none⟩) 1 1)).run Try.prog (w.alloc (.cells #[.int .u8 x] 5))
      = .ok (.string (ByteArray.empty.push (UInt8.ofNat x.toNat))) (w.alloc (.cells #[.int .u8 x] 5)) := by
  rw [run_convert_bytes_string _ _ _ 5 _ _ _ Try.underlying22 Try.underlying5 Try.underlying9]
  exact run_bytesToString (P := Try.prog) (w.alloc (.cells #[.int .u8 x] 5)) ⟨w.heap.size, 0, none⟩ 1 1 [x] (run_loadCells_list _ _ [.int .u8 x] (fun j v hj => by
    obtain ⟨rfl, rfl⟩ : j = 0 ∧ Value.int .u8 x = v := by
      have h1 := (List.getElem?_eq_some_iff.1 hj).1
      simp only [List.length_cons, List.length_nil] at h1
      obtain rfl : j = 0 := by omega
      exact ⟨rfl, by simpa using hj⟩
    go_simp))

/-- one digit more ahead -/
theorem digit_eq (v : Nat) : (48 : UInt8) + UInt8.ofNat (v % 10) = UInt8.ofNat (48 + v % 10) := by
  rw [UInt8.ofNat_add]; rfl
theorem push_data (c : UInt8) (b : ByteArray) : (ByteArray.empty.push c ++ b).data.toList = c :: b.data.toList := by
  rw [ByteArray.data_append]; simp [ByteArray.empty, ByteArray.emptyWithCapacity]; rfl
theorem txt_step {u v : Nat} {b : ByteArray} (h : ¬ v < 10) (H : Lib.decDigits u = Lib.decDigits v ++ b.data.toList) :
    Lib.decDigits u = Lib.decDigits (v / 10) ++ (ByteArray.empty.push (48 + UInt8.ofNat (v % 10)) ++ b).data.toList := by
  rw [H, Lib.decDigits, dif_neg h, push_data, digit_eq]; simp
theorem txt_end {u v : Nat} {b : ByteArray} (h : v < 10) (H : Lib.decDigits u = Lib.decDigits v ++ b.data.toList) :
    Lib.decDigits u = (ByteArray.empty.push (48 + UInt8.ofNat (v % 10)) ++ b).data.toList := by
  rw [H, Lib.decDigits, dif_pos h, push_data, digit_eq, Nat.mod_eq_of_lt h]; simp
theorem txt_len {u : Nat} (hu : (u : Int) ≤ 9223372036854775808) {l : List UInt8} {b : ByteArray} (H : Lib.decDigits u = l ++ b.data.toList) : b.size ≤ 20 := by
  have h1 := (FM.dec_len u (by omega)).2
  rw [H, List.length_append] at h1
  have : b.data.toList.length = b.size := by simp
  omega
theorem itoa_minus {n : Int} {u : Nat} (hn : n < 0) (hu : n.natAbs = u) {b : ByteArray} (h : Lib.decDigits u = b.data.toList) : (⟨#[45]⟩ ++ b : ByteArray) = ⟨(Lib.itoa n).toArray⟩ := by
  apply bytes_inj
  rw [Lib.itoa, if_pos hn, hu, h, ByteArray.data_append]; simp
theorem itoa_plain {n : Int} {u : Nat} (hn : ¬ n < 0) (hu : n.toNat = u) {b : ByteArray} (h : Lib.decDigits u = b.data.toList) : b = ⟨(Lib.itoa n).toArray⟩ := by
  apply bytes_inj
  rw [Lib.itoa, if_neg hn, hu, h]
theorem ret_s {a b : ByteArray} (h : a = b) : Ending.returned (.string a) = .returned (.string b) := by rw [h]

end Go.Proofs.Ytpiekdcbjkgipaa

/- The reference's counts over data that can be read: how deep, how many parts; few enough for a statement. -/
namespace Go.Proofs.Ytpiekdcbjkgipaa
open Go.ChangeShapes Go.WideShapes Go.ChangeAt Go.RowKit

namespace SM
theorem hi_len : ∀ (d : RM.Dl), 0 < d.len → 1 ≤ hi d
  | .nil, h => by simp [RM.Dl.len] at h
  | .cons k n s is r, _ => by unfold hi; omega
theorem hi_at {d : RM.Dl} {i : Nat} {x : RM.Dm} (h : d.at_ i = some x) : hi (dr d i) = max (hi x.is + 1) (hi (dr d (i + 1))) := by rw [dr_at d i x h]; rfl
theorem sz_at {d : RM.Dl} {i : Nat} {x : RM.Dm} (h : d.at_ i = some x) : sz (dr d i) = sz x.is + 1 + sz (dr d (i + 1)) := by rw [dr_at d i x h]; rfl
theorem hi_in : ∀ (d : RM.Dl) (i : Nat), hi (dr d i) ≤ hi d
  | d, 0 => by rw [dr_zero]; exact Nat.le_refl _
  | .nil, i + 1 => Nat.le_refl _
  | .cons k n s is r, i + 1 => by
    have := hi_in r i
    show hi (dr r i) ≤ max (hi is + 1) (hi r)
    omega
end SM
/-- how deep, as far as it is looked -/
def HiN (H : Nat) (far : Int) (w : World) (e : Ending) (w' : World) : Prop := ∃ y : Int, y = min ((H : Int) + 1) (far + 1) ∧ e = .returned (.int .i64 y) ∧ Went w w'
def SzN (n : Int) (w : World) (e : Ending) (w' : World) : Prop := ∃ y : Int, y = min n 5000 ∧ e = .returned (.int .i64 y) ∧ Went w w'
end Go.Proofs.Ytpiekdcbjkgipaa
