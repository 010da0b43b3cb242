/- A string within its marks: the writer's, and the document's own answer. -/
import Derived.Test.YthfelkcomhflnaaDoorQ31
import Derived.Test.YthfelkcomhflnaaDoorQ19
import Derived.Deep.RegionLaw
import Derived.Test.YthfelkcomhflnaaDoorQ7
namespace Go.Proofs.YthfelkcomhflnaaDoor
open Go.ChangeShapes Go.WideShapes Go.ChangeAt Go.RowKit

namespace SM
theorem esl_step {S : ByteArray} {k : Nat} (h : k < S.size) {r : List UInt8} (hr : es S[k] = r) : esl (S.data.toList.take (k + 1)) = esl (S.data.toList.take k) ++ r := by
  have hk : k < S.data.toList.length := by rw [size_len]; exact h
  have : S.data.toList.take (k + 1) = S.data.toList.take k ++ [S[k]] := by
    rw [List.take_succ_eq_append_getElem hk]; rfl
  rw [this, esl_snoc, hr]
theorem byte_num {c : UInt8} {n : Nat} (hn : n < 256) (h : (c.toNat : Int) = n) : c = UInt8.ofNat n := by
  apply UInt8.toNat.inj
  rw [UInt8.toNat_ofNat']
  omega
theorem byte_not {c : UInt8} {n : Nat} (hn : n < 256) (h : ¬ (c.toNat : Int) = n) : ¬ c = UInt8.ofNat n := by
  rintro rfl
  rw [UInt8.toNat_ofNat'] at h
  omega
end SM
theorem below_of_drew' (w : World) : Below w.heap.size w w.drew := ⟨rfl, rfl, rfl, Nat.le_refl _, fun _ _ => rfl⟩
set_option maxRecDepth 100000 in
set_option maxHeartbeats 4000000 in
theorem quoted_any (w : World) (B p : Nat) (v : Value) (l : List UInt8) (b : Bool) (S : ByteArray) (h : Wr w B p v l b) (hl : l.length ≤ 900000000) (hS : S.size ≤ 500) :
    Calls Tryd.prog 85 #[.pointer (some ⟨p, 0, none⟩), .string S] w fun e w' => e = .returned (.tuple #[]) ∧ (∃ v', Wr w' B p v' (l ++ SM.quo S.data.toList) b) ∧ Ch B p w w' := by
  have hP := Lib.hid (fun w' v' l' t => put_any w' B p v' l' t b)
  obtain ⟨hB, hp⟩ := h.lt
  go_enter Tryd.func85, Tryd.ntmps85
  go_wp2_with (
    go_at_call 82
    refine (hP.out w v l [34] h (by simp; omega)).mono ?_
    rintro e w1 ⟨rfl, ⟨v1, hW1⟩, hc1⟩)
  go_loopw [9] (fun i wr => ∃ (k : Nat) (vr : Value) (L : List UInt8), k ≤ S.size ∧ i = .int .i64 k ∧ Wr wr B p vr L b ∧ Hid (L = l ++ 34 :: SM.esl (S.data.toList.take k)) ∧ L.length ≤ l.length + 1 + 2 * k ∧ Ch B p w wr) (fun i _ => S.size - (intOf i).toNat)
  case atStart => exact ⟨0, v1, l ++ [34], by omega, rfl, hW1, Lib.hid (by simp [SM.esl]), by simp, hc1⟩
  case round =>
    obtain ⟨k, vr, L, hk, rfl, hW, hLq, hLl, hc⟩ := hrel
    clear hW1 hc1 h
    by_cases hlt : k < S.size
    · have hst := fun r hr => SM.esl_step (r := r) hlt hr
      have hst' := Lib.hid hst
      clear hst
      by_cases h10 : (S[k].toNat : Int) = 10
      · have e1 : ((S[k].toNat : Int) == 10) = true := by simp [h10]
        have hes : Hid (SM.es S[k] = [92, 110]) := Lib.hid (by rw [SM.byte_num (n := 10) (by omega) h10]; rfl)
        clear h10
        go_wp2_with (
          go_at_call 82
          refine (hP.out wr vr L [92, 110] hW (by simp; omega)).mono ?_
          rintro e w5 ⟨rfl, ⟨v5, hW5⟩, hc5⟩)
        go_roundw
        case rel => exact ⟨k + 1, v5, _, by omega, by go_num, hW5, Lib.hid (by rw [hLq.out, hst'.out _ hes.out]; simp), by simp; omega, hc.trans hc5⟩
        case measure => simp [intOf]; omega
      · have e1 : ((S[k].toNat : Int) == 10) = false := by simp; exact h10
        by_cases h9 : (S[k].toNat : Int) = 9
        · have e2 : ((S[k].toNat : Int) == 9) = true := by simp [h9]
          have hes : Hid (SM.es S[k] = [92, 116]) := Lib.hid (by rw [SM.byte_num (n := 9) (by omega) h9]; rfl)
          clear h10 h9
          go_wp2_with (
            go_at_call 82
            refine (hP.out wr vr L [92, 116] hW (by simp; omega)).mono ?_
            rintro e w5 ⟨rfl, ⟨v5, hW5⟩, hc5⟩)
          go_roundw
          case rel => exact ⟨k + 1, v5, _, by omega, by go_num, hW5, Lib.hid (by rw [hLq.out, hst'.out _ hes.out]; simp), by simp; omega, hc.trans hc5⟩
          case measure => simp [intOf]; omega
        · have e2 : ((S[k].toNat : Int) == 9) = false := by simp; exact h9
          by_cases hq : (S[k].toNat : Int) = 92 ∨ (S[k].toNat : Int) = 34
          · have hes : Hid (SM.es S[k] = [92, S[k]]) := Lib.hid (by
              rcases hq with hq | hq
              · have := SM.byte_num (n := 92) (by omega) hq
                rw [this]; rfl
              · have := SM.byte_num (n := 34) (by omega) hq
                rw [this]; rfl)
            clear h10 h9
            rcases hq with hq | hq
            all_goals
              first
                | (have e3 : ((S[k].toNat : Int) == 92) = true := by simp [hq]
                   have hz := Lib.hid hq
                   clear hq)
                | (have e3 : ((S[k].toNat : Int) == 92) = false := by simp; omega
                   have e4 : ((S[k].toNat : Int) == 34) = true := by simp [hq]
                   have hz := Lib.hid hq
                   clear hq)
              go_wp2_with (
                go_at_call 82
                refine (hP.out wr vr L [92] hW (by simp; omega)).mono ?_
                rintro e w5 ⟨rfl, ⟨v5, hW5⟩, hc5⟩
                obtain ⟨A5, c5, e5⟩ := hW5.read
                obtain ⟨n5, hn5'⟩ : ∃ n, (L ++ [92]).length = n := ⟨_, rfl⟩
                rw [hn5'] at e5
                subst e5
                have hO5 : w5.ownsRow B 5 1 (.slice A5 n5 c5) n5 (Lib.byteCells (L ++ [92])) := by have := hW5.2.2; unfold OwnB at this; rwa [hn5'] at this
                have hLl5 : n5 ≤ l.length + 2 + 2 * k := by rw [← hn5']; simp; omega
                have y0 : w5.cell? ⟨p, 0, none⟩ = some (.slice A5 n5 c5) := hW5.2.1.cell 0
                have f0 := hW5.2.1.free
                have hn5 := Lib.hid hn5'
                have hpl := hW5.lt.2
                clear hn5')
              go_region_law
                ((first
              | (refine step_append_own (v := .slice A5 n5 c5) (.int .u8 0) 1 Tryd.infoByte rfl (by decide) (by rfl) _ _ 60 (by rfl) Tryd.underlying60 (by rfl) (by rfl) (own_turns hO5 (((Turns.refl (fun _ => False) w5).alloc (.cells #[.int .u8 S[k].toNat] 5)).drew) (fun _ _ h => h)) (own_turns (own_one (B := 0) w5 #[.int .u8 S[k].toNat] rfl (Nat.zero_le _)) ((Turns.refl (fun _ => False) _).drew) (fun _ _ h => h)) (by simp [Value.oneCell']) (by omega) (by omega) (by simp; omega) ?_
                 intro v9 w9 hown9 hg9 _
                 have hO9 : OwnB w9 B v9 ((L ++ [92]) ++ [S[k]]) := by
                   unfold OwnB
                   rw [List.length_append, hn5.out, ← byte_push]
                   exact hown9
                 obtain ⟨m9, hm9⟩ : ∃ m, ((L ++ [92]) ++ [S[k]]).length = m := ⟨_, rfl⟩
                 obtain ⟨A9, c9, e9⟩ := hO9.read
                 rw [hm9] at e9
                 subst e9
                 have h' := (hW5.alloc (.cells #[.int .u8 S[k].toNat] 5)).below (below_of_drew' _)
                 have hW9 := Wr.put h' hO9 hg9
                 have T := Turns.appendedS hg9
                 have hL9 := (h'.2.1).turns T (fun hh => ((h'.2.2.byt _ hh).2).not_lies h'.2.1 (by decide))
                 have y9 : w9.cell? ⟨p, 0, none⟩ = some (.slice A5 n5 c5) := hL9.cell 0
                 have f9 := hL9.free
                 clear hown9 hg9 hO9 hm9 hL9 T h')))
              all_goals
                go_wp2_with fail
                go_roundw
                case rel => exact ⟨k + 1, _, _, by omega, by go_num, hW9.1, Lib.hid (by rw [hLq.out, hst'.out _ hes.out]; simp), by rw [List.length_append, hn5.out]; simp; omega, (hc.trans hc5).trans (Ch.of_alloc (Ch.trans (Ch.of_below (below_of_drew' _)) hW9.2))⟩
                case measure => simp [intOf]; omega
          · have e3 : ((S[k].toNat : Int) == 92) = false := by simp; omega
            have e4 : ((S[k].toNat : Int) == 34) = false := by simp; omega
            have hes : Hid (SM.es S[k] = [S[k]]) := Lib.hid (by
              unfold SM.es
              rw [if_neg (show ¬ S[k] = 10 from SM.byte_not (n := 10) (by omega) h10), if_neg (show ¬ S[k] = 9 from SM.byte_not (n := 9) (by omega) h9), if_neg]
              rintro (h | h)
              · rw [h] at hq; exact hq (.inl rfl)
              · rw [h] at hq; exact hq (.inr rfl))
            clear h10 h9 hq
            obtain ⟨A5, c5, rfl⟩ := hW.read
            obtain ⟨n5, hn5'⟩ : ∃ n, L.length = n := ⟨_, rfl⟩
            have hO5 : wr.ownsRow B 5 1 (.slice A5 n5 c5) n5 (Lib.byteCells L) := by have := hW.2.2; unfold OwnB at this; rwa [hn5'] at this
            rw [hn5'] at hW hLl
            have y0 : wr.cell? ⟨p, 0, none⟩ = some (.slice A5 n5 c5) := hW.2.1.cell 0
            have f0 := hW.2.1.free
            have hn5 := Lib.hid hn5'
            have hpl := hW.lt.2
            clear hn5'
            go_wp2_with fail
            go_region_law
              ((first
            | (refine step_append_own (v := .slice A5 n5 c5) (.int .u8 0) 1 Tryd.infoByte rfl (by decide) (by rfl) _ _ 60 (by rfl) Tryd.underlying60 (by rfl) (by rfl) (own_turns hO5 (((Turns.refl (fun _ => False) wr).alloc (.cells #[.int .u8 S[k].toNat] 5)).drew) (fun _ _ h => h)) (own_turns (own_one (B := 0) wr #[.int .u8 S[k].toNat] rfl (Nat.zero_le _)) ((Turns.refl (fun _ => False) _).drew) (fun _ _ h => h)) (by simp [Value.oneCell']) (by omega) (by omega) (by simp; omega) ?_
               intro v9 w9 hown9 hg9 _
               have hO9 : OwnB w9 B v9 (L ++ [S[k]]) := by
                 unfold OwnB
                 rw [List.length_append, hn5.out, ← byte_push]
                 exact hown9
               obtain ⟨m9, hm9⟩ : ∃ m, (L ++ [S[k]]).length = m := ⟨_, rfl⟩
               obtain ⟨A9, c9, e9⟩ := hO9.read
               rw [hm9] at e9
               subst e9
               have h' := (hW.alloc (.cells #[.int .u8 S[k].toNat] 5)).below (below_of_drew' _)
               have hW9 := Wr.put h' hO9 hg9
               have T := Turns.appendedS hg9
               have hL9 := (h'.2.1).turns T (fun hh => ((h'.2.2.byt _ hh).2).not_lies h'.2.1 (by decide))
               have y9 : w9.cell? ⟨p, 0, none⟩ = some (.slice A5 n5 c5) := hL9.cell 0
               have f9 := hL9.free
               clear hown9 hg9 hO9 hm9 hL9 T h')))
            all_goals
              go_wp2_with fail
              go_roundw
              case rel => exact ⟨k + 1, _, _, by omega, by go_num, hW9.1, Lib.hid (by rw [hLq.out, hst'.out _ hes.out]; simp), by rw [List.length_append, hn5.out]; simp; omega, hc.trans (Ch.of_alloc (Ch.trans (Ch.of_below (below_of_drew' _)) hW9.2))⟩
              case measure => simp [intOf]; omega
    · obtain rfl : k = S.size := by omega
      go_wp2_with (
        go_at_call 82
        refine (hP.out wr vr L [34] hW (by simp; omega)).mono ?_
        rintro e w5 ⟨rfl, ⟨v5, hW5⟩, hc5⟩)
      go_end0
      refine ⟨rfl, ⟨v5, ?_⟩, hc.trans hc5⟩
      have hL := hLq.out
      rw [List.take_of_length_le (by rw [size_len]; exact Nat.le_refl _)] at hL
      rw [hL] at hW5
      unfold SM.quo
      simpa using hW5
end Go.Proofs.YthfelkcomhflnaaDoor

/- The document's own answer: a string within its marks. -/
namespace Go.Proofs.YthfelkcomhflnaaDoor
open Go.ChangeShapes Go.WideShapes Go.ChangeAt Go.RowKit

theorem own_pair (w : World) (a b : Value) : (w.alloc (.cells #[a, b] 5)).ownsRow 0 5 1 (.slice (some ⟨w.heap.size, 0, none⟩) 2 2) 2 [a, b] :=
  ⟨rfl, .inr ⟨w.heap.size, 2, #[a, b], rfl, Nat.zero_le _, heap_alloc_new w _, Nat.le_refl _, by unfold maxLen; omega, rfl, rfl⟩⟩
theorem byte_cells2 (l : List UInt8) (a b : UInt8) : Lib.byteCells l ++ [Value.int .u8 (a.toNat : Int), Value.int .u8 (b.toNat : Int)] = Lib.byteCells (l ++ [a, b]) := by simp [Lib.byteCells]
end Go.Proofs.YthfelkcomhflnaaDoor
