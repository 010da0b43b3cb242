/- The document's own answer: a string within its marks. -/
import Derived.Test.YtfkmknehoonlcaaDoorShowQuote
import Derived.Test.YtfkmknehoonlcaaDoorOwnD
namespace Go.Proofs.YtfkmknehoonlcaaDoor
open Go.ChangeShapes Go.WideShapes Go.ChangeAt Go.RowKit

theorem own_pair (w : World) (a b : Value) : (w.alloc (.cells #[a, b] 5)).ownsRow 0 5 1 (.slice (some ⟨w.heap.size, 0, none⟩) 2 2) 2 [a, b] :=
  ⟨rfl, .inr ⟨w.heap.size, 2, #[a, b], rfl, Nat.zero_le _, heap_alloc_new w _, Nat.le_refl _, by unfold maxLen; omega, rfl, rfl⟩⟩
theorem byte_cells2 (l : List UInt8) (a b : UInt8) : Lib.byteCells l ++ [Value.int .u8 (a.toNat : Int), Value.int .u8 (b.toNat : Int)] = Lib.byteCells (l ++ [a, b]) := by simp [Lib.byteCells]
set_option maxRecDepth 100000 in
set_option maxHeartbeats 4000000 in
theorem rstr_any (w : World) (S : ByteArray) (hS : S.size ≤ 500) :
    Calls Tryd.prog 23 #[.string S] w fun e w' => e = .returned (.string ⟨(SM.quo S.data.toList).toArray⟩) ∧ Went w w' := by
  go_enter Tryd.func23, Tryd.ntmps23
  go_wp2_with fail
  go_loopw [3, 4] (fun v3 i wr => ∃ (k n : Nat) (A : Option Addr) (c : Nat) (L : List UInt8), k ≤ S.size ∧ i = .int .i64 k ∧ v3 = .slice A n c ∧ wr.ownsRow w.heap.size 5 1 (.slice A n c) n (Lib.byteCells L) ∧ Hid (L.length = n) ∧ Hid (L = 34 :: SM.esl (S.data.toList.take k)) ∧ n ≤ 1 + 2 * k ∧ Below w.heap.size w wr) (fun _ i _ => S.size - (intOf i).toNat)
  case atStart => exact ⟨0, 1, _, _, [34], by omega, rfl, rfl, own_one w #[.int .u8 34] rfl (Nat.le_refl _), Lib.hid rfl, Lib.hid (by simp [SM.esl]), by omega, went_alloc _ _⟩
  case round =>
    obtain ⟨k, n, A, c, L, hk, rfl, rfl, hO, hn, hLq, hnk, hb⟩ := hrel
    have hsz := hb.size
    by_cases hlt : k < S.size
    · have hst := fun r hr => SM.esl_step (r := r) hlt hr
      have hst' := Lib.hid hst
      clear hst
      by_cases h10 : (S[k].toNat : Int) = 10
      · have e1 : ((S[k].toNat : Int) == 10) = true := by simp [h10]
        have hes : Hid (SM.es S[k] = [92, 110]) := Lib.hid (by rw [SM.byte_num (n := 10) (by omega) h10]; rfl)
        clear h10
        go_wp2_with (
          at_builtin
          refine wpList_append_row (v := .slice A n c) (x := .slice (some ⟨wr.heap.size, 0, none⟩) 2 2) (.int .u8 0) 1 Tryd.infoByte rfl (by decide) rfl _ _ 46 rfl Tryd.underlying46 rfl rfl (own_turns hO ((Turns.refl (fun _ => False) _).alloc _) (fun _ _ h => h)) (own_pair wr (.int .u8 92) (.int .u8 110)) (by simp [Value.oneCell']) (by omega) (by omega) (by simp; omega) ?_
          intro v9 w9 hown9 hg9 _
          have hb9 : Below w.heap.size w w9 := (hb.alloc hb.size _).trans (Turns.below (Turns.appendedS hg9) (by simp; omega) (fun g hg => (World.ownsRow.lt hO g hg).1))
          obtain ⟨A9, c9, e9, -⟩ := own_read hown9
          subst e9
          clear hg9)
        go_roundw
        case rel => exact ⟨k + 1, n + 2, A9, c9, L ++ [92, 110], by omega, by go_num, rfl, by rw [← byte_cells2]; exact hown9, Lib.hid (by rw [List.length_append, hn.out]; rfl), Lib.hid (by rw [hLq.out, hst'.out _ hes.out]; simp), by omega, hb9⟩
        case measure => simp [intOf]; omega
      · have e1 : ((S[k].toNat : Int) == 10) = false := by simp; exact h10
        by_cases h9 : (S[k].toNat : Int) = 9
        · have e2 : ((S[k].toNat : Int) == 9) = true := by simp [h9]
          have hes : Hid (SM.es S[k] = [92, 116]) := Lib.hid (by rw [SM.byte_num (n := 9) (by omega) h9]; rfl)
          clear h10 h9
          go_wp2_with (
            at_builtin
            refine wpList_append_row (v := .slice A n c) (x := .slice (some ⟨wr.heap.size, 0, none⟩) 2 2) (.int .u8 0) 1 Tryd.infoByte rfl (by decide) rfl _ _ 46 rfl Tryd.underlying46 rfl rfl (own_turns hO ((Turns.refl (fun _ => False) _).alloc _) (fun _ _ h => h)) (own_pair wr (.int .u8 92) (.int .u8 116)) (by simp [Value.oneCell']) (by omega) (by omega) (by simp; omega) ?_
            intro v9 w9 hown9 hg9 _
            have hb9 : Below w.heap.size w w9 := (hb.alloc hb.size _).trans (Turns.below (Turns.appendedS hg9) (by simp; omega) (fun g hg => (World.ownsRow.lt hO g hg).1))
            obtain ⟨A9, c9, e9, -⟩ := own_read hown9
            subst e9
            clear hg9)
          go_roundw
          case rel => exact ⟨k + 1, n + 2, A9, c9, L ++ [92, 116], by omega, by go_num, rfl, by rw [← byte_cells2]; exact hown9, Lib.hid (by rw [List.length_append, hn.out]; rfl), Lib.hid (by rw [hLq.out, hst'.out _ hes.out]; simp), by omega, hb9⟩
          case measure => simp [intOf]; omega
        · have e2 : ((S[k].toNat : Int) == 9) = false := by simp; exact h9
          by_cases hq : (S[k].toNat : Int) = 92 ∨ (S[k].toNat : Int) = 34
          · have hes : Hid (SM.es S[k] = [92, S[k]]) := Lib.hid (by
              rcases hq with hq | hq
              · have := SM.byte_num (n := 92) (by omega) hq
                rw [this]; rfl
              · have := SM.byte_num (n := 34) (by omega) hq
                rw [this]; rfl)
            clear h10 h9
            rcases hq with hq | hq
            all_goals
              first
                | (have e3 : ((S[k].toNat : Int) == 92) = true := by simp [hq]
                   have hz := Lib.hid hq
                   clear hq)
                | (have e3 : ((S[k].toNat : Int) == 92) = false := by simp; omega
                   have e4 : ((S[k].toNat : Int) == 34) = true := by simp [hq]
                   have hz := Lib.hid hq
                   clear hq)
              go_wp2_with (
                at_builtin
                refine wpList_append_row (v := .slice A n c) (x := .slice (some ⟨wr.heap.size, 0, none⟩) 2 2) (.int .u8 0) 1 Tryd.infoByte rfl (by decide) rfl _ _ 46 rfl Tryd.underlying46 rfl rfl (own_turns hO ((Turns.refl (fun _ => False) _).alloc _) (fun _ _ h => h)) (own_pair wr (.int .u8 92) (.int .u8 S[k].toNat)) (by simp [Value.oneCell']) (by omega) (by omega) (by simp; omega) ?_
                intro v9 w9 hown9 hg9 _
                have hb9 : Below w.heap.size w w9 := (hb.alloc hb.size _).trans (Turns.below (Turns.appendedS hg9) (by simp; omega) (fun g hg => (World.ownsRow.lt hO g hg).1))
                obtain ⟨A9, c9, e9, -⟩ := own_read hown9
                subst e9
                clear hg9)
              go_roundw
              case rel => exact ⟨k + 1, n + 2, A9, c9, L ++ [92, S[k]], by omega, by go_num, rfl, by rw [← byte_cells2]; exact hown9, Lib.hid (by rw [List.length_append, hn.out]; rfl), Lib.hid (by rw [hLq.out, hst'.out _ hes.out]; simp), by omega, hb9⟩
              case measure => simp [intOf]; omega
          · have e3 : ((S[k].toNat : Int) == 92) = false := by simp; omega
            have e4 : ((S[k].toNat : Int) == 34) = false := by simp; omega
            have hes : Hid (SM.es S[k] = [S[k]]) := Lib.hid (by
              unfold SM.es
              rw [if_neg (show ¬ S[k] = 10 from SM.byte_not (n := 10) (by omega) h10), if_neg (show ¬ S[k] = 9 from SM.byte_not (n := 9) (by omega) h9), if_neg]
              rintro (h | h)
              · rw [h] at hq; exact hq (.inl rfl)
              · rw [h] at hq; exact hq (.inr rfl))
            clear h10 h9 hq
            go_wp2_with (
              at_builtin
              refine wpList_append_own (v := .slice A n c) (x := .slice (some ⟨wr.heap.size, 0, none⟩) 1 1) (.int .u8 0) 1 Tryd.infoByte rfl (by decide) rfl _ _ 46 rfl Tryd.underlying46 rfl rfl (own_turns hO ((Turns.refl (fun _ => False) _).alloc _) (fun _ _ h => h)) (own_one (B := 0) wr #[.int .u8 S[k].toNat] rfl (Nat.zero_le _)) (by simp [Value.oneCell']) (by omega) (by omega) (by simp; omega) ?_
              intro v9 w9 hown9 hg9 _
              have hb9 : Below w.heap.size w w9 := (hb.alloc hb.size _).trans (Turns.below (Turns.appendedS hg9) (by simp; omega) (fun g hg => (World.ownsRow.lt hO g hg).1))
              obtain ⟨A9, c9, e9, -⟩ := own_read hown9
              subst e9
              clear hg9)
            go_roundw
            case rel => exact ⟨k + 1, n + 1, A9, c9, L ++ [S[k]], by omega, by go_num, rfl, by rw [← byte_push]; exact hown9, Lib.hid (by rw [List.length_append, hn.out]; rfl), Lib.hid (by rw [hLq.out, hst'.out _ hes.out]; simp), by omega, hb9⟩
            case measure => simp [intOf]; omega
    · obtain rfl : k = S.size := by omega
      go_wp2_with (
        at_builtin
        refine wpList_append_own (v := .slice A n c) (x := .slice (some ⟨wr.heap.size, 0, none⟩) 1 1) (.int .u8 0) 1 Tryd.infoByte rfl (by decide) rfl _ _ 46 rfl Tryd.underlying46 rfl rfl (own_turns hO ((Turns.refl (fun _ => False) _).alloc _) (fun _ _ h => h)) (own_one (B := 0) wr #[.int .u8 34] rfl (Nat.zero_le _)) (by simp [Value.oneCell']) (by omega) (by omega) (by simp; omega) ?_
        intro v9 w9 hown9 hg9 _
        have hb9 : Below w.heap.size w w9 := (hb.alloc hb.size _).trans (Turns.below (Turns.appendedS hg9) (by simp; omega) (fun g hg => (World.ownsRow.lt hO g hg).1))
        have hO9 : OwnB w9 w.heap.size v9 (L ++ [34]) := by
          unfold OwnB
          rw [List.length_append, hn.out, ← byte_push]
          exact hown9
        obtain ⟨A9, c9, e9, -⟩ := own_read hown9
        subst e9
        have hcv := hO9.conv
        clear hg9 hown9)
      go_ret
      have hL := hLq.out
      rw [List.take_of_length_le (by rw [size_len]; exact Nat.le_refl _)] at hL
      exact ⟨ret_s (by rw [hL]; rfl), hb9⟩
end Go.Proofs.YtfkmknehoonlcaaDoor
