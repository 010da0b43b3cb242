/- The closed part of every law of layer 5: the answers that the document fixes are given. -/
import Derived.Test.YtclcnepkgjcmcaaDoorQ26
import Derived.Test.YtclcnepkgjcmcaaDoorQ37
import Derived.WalkLawsBesides
namespace Go.Proofs.YtclcnepkgjcmcaaDoor
open Go.ChangeShapes Go.WideShapes Go.ChangeAt Go.RowKit

/-- four cells of the first size, an increment for each allocation -/
def G4 : Geo := ⟨⟨4, 0, 0, 0⟩, 1⟩
theorem G4_ok : G4.ok := by unfold Geo.ok; decide +kernel
/-- the heap that awake makes, behind j rounds -/
def awS : Nat → Hp
  | 0 => G4.fresh
  | j + 1 => (((awS j).incs G4 1).alloc 1 5 2).setRoot G4 j (8 * ((awS j).incs G4 1).firstFree 0 + 1)
def awT : Hp := (awS 4).setRoot G4 3 12
def awU : Hp := awT.incs G4 40

theorem aw_free : ∀ j, j < 4 → ((awS j).incs G4 1).fre.at_ 0 ≠ 0 := by
  intro j hj
  rcases lt4 hj with rfl | rfl | rfl | rfl
  · decide +kernel
  · decide +kernel
  · decide +kernel
  · decide +kernel
theorem aw_last : (awU.incs G4 1).fre.at_ 0 ≠ 0 := by decide +kernel

/-- a word of a cell of a ring -/
theorem Inv.cell_word {B : Int} {G : Geo} {H : Hp} {R : Nat → List Int} (i : Inv B G H R) {x : Int} (hC : G.C x) : 0 ≤ 8 * x + 1 ∧ 8 * x + 1 < 18446744073709551616 ∧ G.may (8 * x + 1) = true := by
  have hx := Geo.extent i.ok hC
  have hl := ln_lo (G.cls x)
  have ht := i.ok.lines
  refine ⟨by omega, by omega, ?_⟩
  rw [Geo.may, plc_of_cell i.ok hC]
  rfl
theorem may_plain {G : Geo} {v : Int} (h : WM.kd v ≠ 2) : G.may v = true := by
  simp [Geo.may, h]

theorem aw_inv : ∀ j : Nat, j ≤ 4 → ∃ R, Inv j G4 (awS j) R
  | 0, _ => ⟨_, (inv_fresh G4_ok).1⟩
  | j + 1, h => by
    obtain ⟨R, i⟩ := aw_inv j (by omega)
    have i1 := inv_incs i 1 (by omega)
    have i2 := inv_alloc i1 (f := 1) (t := 5) (n := 2) (by omega) (by omega) (by omega) (by omega) (by omega) (by omega) (by omega) (aw_free j (by omega))
    obtain ⟨-, -, -, -, hb, -⟩ := inv_take i1 (f := 1) (t := 5) (n := 2) (by omega) (by omega) (by omega) (by omega) (by omega) (by omega) (by omega) (aw_free j (by omega))
    have hC := i1.rg.place _ (by decide) _ hb
    obtain ⟨w0, w1, -⟩ := i1.cell_word hC
    have i3 := inv_setRoot i2 (j := (j : Int)) (by omega) (by omega) w0 w1
    exact ⟨_, i3⟩
theorem aw_invT : ∃ R, Inv 4 G4 awT R := by
  obtain ⟨R, i⟩ := aw_inv 4 (by omega)
  exact ⟨_, inv_setRoot i (j := 3) (v := 12) (by omega) (by omega) (by omega) (by omega)⟩
theorem aw_invU : ∃ R, Inv 44 G4 awU R := by
  obtain ⟨R, i⟩ := aw_invT
  exact ⟨_, inv_incs i 40 (by omega)⟩

set_option maxRecDepth 100000 in
theorem awake_any (w : World) (ht : Tab w) :
    Calls Tryd.prog 4 #[] w fun e w' => e = .returned (.bool true) ∧ Below w.heap.size w w' := by
  have NW := Lib.hid (new_yes G4 G4_ok w ht)
  have FR := Lib.hid (fun q p b w1 (h1 : Tr w1 q p b G4 (awS 0)) => Free_any (q := q) (p := p) (b := b) 0 (by omega) w1 h1)
  have AL : Hid (∀ (j : Nat), j < 4 → ∀ q p b w1, Tr w1 q p b G4 (awS j) → Calls Tryd.prog 12 #[.pointer (some ⟨q, 0, none⟩), .int .i64 1, .int .i64 5, .int .i64 2] w1 fun e w' =>
      e = .returned (.tuple #[.int .u64 (8 * ((awS j).incs G4 1).firstFree 0 + 1), .nilIface]) ∧ Tr w' q p b G4 (((awS j).incs G4 1).alloc 1 5 2) ∧ Turns (Own3 q p b) w1 w') := fun j hj q p b w1 h1 => by
    obtain ⟨R, i⟩ := aw_inv j (by omega)
    exact alloc_yes i 1 5 2 (by omega) (by omega) (by omega) (by omega) (by omega) (by omega) (by omega) (by show (j : Int) + 1 ≤ _; omega) (aw_free j hj) w1 h1
  have SR : Hid (∀ (j : Nat), j < 4 → ∀ q p b w1, Tr w1 q p b G4 (((awS j).incs G4 1).alloc 1 5 2) → Calls Tryd.prog 13 #[.pointer (some ⟨q, 0, none⟩), .int .i64 j, .int .u64 (8 * ((awS j).incs G4 1).firstFree 0 + 1)] w1 fun e w' =>
      e = .returned .nilIface ∧ Tr w' q p b G4 (awS (j + 1)) ∧ Turns (Own3 q p b) w1 w') := fun j hj q p b w1 h1 => by
    obtain ⟨R, i⟩ := aw_inv j (by omega)
    have i1 := inv_incs i 1 (by omega)
    have i2 := inv_alloc i1 (f := 1) (t := 5) (n := 2) (by omega) (by omega) (by omega) (by omega) (by omega) (by omega) (by omega) (aw_free j (by omega))
    obtain ⟨-, -, -, -, hb, -⟩ := inv_take i1 (f := 1) (t := 5) (n := 2) (by omega) (by omega) (by omega) (by omega) (by omega) (by omega) (by omega) (aw_free j (by omega))
    obtain ⟨v0, v1, v2⟩ := i1.cell_word (i1.rg.place _ (by decide) _ hb)
    exact SetRoot_yes i2 j _ (by omega) (by omega) v0 v1 v2 w1 h1
  have SV : Hid (∀ q p b w1, Tr w1 q p b G4 (awS 4) → Calls Tryd.prog 13 #[.pointer (some ⟨q, 0, none⟩), .int .i64 3, .int .u64 12] w1 fun e w' =>
      e = .returned .nilIface ∧ Tr w' q p b G4 awT ∧ Turns (Own3 q p b) w1 w') := fun q p b w1 h1 => by
    obtain ⟨R, i⟩ := aw_inv 4 (by omega)
    exact SetRoot_yes i 3 12 (by omega) (by omega) (by omega) (by omega) (may_plain (by decide +kernel)) w1 h1
  have IN : Hid (∀ q p b w1, Tr w1 q p b G4 awT → Calls Tryd.prog 15 #[.pointer (some ⟨q, 0, none⟩), .int .i64 40] w1 fun e w' =>
      e = .returned (.tuple #[]) ∧ Tr w' q p b G4 awU ∧ Turns (Own3 q p b) w1 w') := fun q p b w1 h1 => by
    obtain ⟨R, i⟩ := aw_invT
    exact incs_any i 40 (by omega) (by omega) w1 h1
  have SH : Hid (∀ q p b w1, Tr w1 q p b G4 awU → Calls Tryd.prog 16 #[.pointer (some ⟨q, 0, none⟩), .int .u64 20] w1 fun e w' =>
      e = .returned (.tuple #[.int .i64 0, .int .i64 0, .int .i64 0, .iface 58 (.int .i64 2)]) ∧ Tr w' q p b G4 awU ∧ Turns (Own3 q p b) w1 w') := fun q p b w1 h1 =>
    Shape_no G4_ok 20 (by omega) (by omega) (by decide +kernel) w1 h1
  have AU : Hid (∀ q p b w1, Tr w1 q p b G4 awU → Calls Tryd.prog 12 #[.pointer (some ⟨q, 0, none⟩), .int .i64 1, .int .i64 5, .int .i64 2] w1 fun e w' =>
      e = .returned (.tuple #[.int .u64 (8 * (awU.incs G4 1).firstFree 0 + 1), .nilIface]) ∧ Tr w' q p b G4 ((awU.incs G4 1).alloc 1 5 2) ∧ Turns (Own3 q p b) w1 w') := fun q p b w1 h1 => by
    obtain ⟨R, i⟩ := aw_invU
    exact alloc_yes i 1 5 2 (by omega) (by omega) (by omega) (by omega) (by omega) (by omega) (by omega) (by show (44 : Int) + 1 ≤ _; omega) aw_last w1 h1
  have SU : Hid (∀ q p b w1, Tr w1 q p b G4 ((awU.incs G4 1).alloc 1 5 2) → Calls Tryd.prog 16 #[.pointer (some ⟨q, 0, none⟩), .int .u64 (8 * (awU.incs G4 1).firstFree 0 + 1)] w1 fun e w' =>
      e = .returned (.tuple #[.int .i64 1, .int .i64 5, .int .i64 2, .nilIface]) ∧ Tr w' q p b G4 ((awU.incs G4 1).alloc 1 5 2) ∧ Turns (Own3 q p b) w1 w') := fun q p b w1 h1 => by
    obtain ⟨R, i⟩ := aw_invU
    have i1 := inv_incs i 1 (by omega)
    have i2 := inv_alloc i1 (f := 1) (t := 5) (n := 2) (by omega) (by omega) (by omega) (by omega) (by omega) (by omega) (by omega) aw_last
    obtain ⟨-, -, -, hm, hb, -⟩ := inv_take i1 (f := 1) (t := 5) (n := 2) (by omega) (by omega) (by omega) (by omega) (by omega) (by omega) (by omega) aw_last
    have hC := i1.rg.place _ (by decide) _ hb
    have := Shape_yes i2 ((awU.incs G4 1).firstFree 0) hC w1 h1
    have hx := Geo.extent i.ok hC
    have he : gv ((awU.incs G4 1).alloc 1 5 2).ws ((awU.incs G4 1).firstFree 0) = mwith (mshape 1 5 2) 0 (awU.incs G4 1).next := by
      rw [← hm]
      show gv (clearF _ _ _ _) _ = _
      have hl : ((awU.incs G4 1).take (cln 2) (mshape 1 5 2)).ws.length = (awU.incs G4 1).ws.length := by
        show (sv (ins (rem (awU.incs G4 1).ws _) _ _) _ _).length = _
        rw [sv_length, ins_length, rem_length]
      have := i1.len
      have := ln_lo (G4.cls ((awU.incs G4 1).firstFree (cln 2)))
      have h2 : (2 : Int).toNat = 2 := rfl
      have hfe : (awU.incs G4 1).firstFree (cln 2) = (awU.incs G4 1).firstFree 0 := rfl
      rw [clearF_at _ _ _ (by omega) _ (by rw [hl, h2]; omega), if_neg (by omega)]
      rfl
    rw [he, mform_with, mtag_with, msize_with] at this
    exact this
  have VD := Lib.hid (fun w => void_any w)
  have UD := Lib.hid (fun w => undef_any w)
  have C4 : Hid (∀ w1, Tab w1 → Calls Tryd.prog 19 #[.int .i64 4] w1 fun e w' => e = .returned (.int .i64 1) ∧ w1 = w') := fun w1 h1 => class_any 4 w1 h1
  have C8 : Hid (∀ w1, Tab w1 → Calls Tryd.prog 19 #[.int .i64 128] w1 fun e w' => e = .returned (.int .i64 (-1)) ∧ w1 = w') := fun w1 h1 => class_any 128 w1 h1
  clear ht
  have F0 : Hid (G4.fresh = awS 0) := rfl
  have N0 : Hid ((awS 0).fre.at_ 0 = 4) := rfl
  rw [F0.out] at NW
  rw [N0.out] at FR
  have E0 : Hid (G4.n.a = 4 ∧ G4.n.b = 0 ∧ G4.n.c = 0 ∧ G4.n.d = 0 ∧ G4.k = 1) := ⟨rfl, rfl, rfl, rfl, rfl⟩
  obtain ⟨ea, eb, ec, ed, ek⟩ := E0.out
  rw [ea, eb, ec, ed, ek] at NW
  clear ea eb ec ed ek E0 F0 N0
  generalize (awU.incs G4 1).alloc 1 5 2 = HU at *
  generalize 8 * (awU.incs G4 1).firstFree 0 + 1 = cu at *
  generalize hS : awS = S at *
  clear hS
  generalize awU = U at *
  generalize awT = T at *
  go_enter Tryd.func4, Tryd.ntmps4
  go_wp2_with (first
    | (go_at_call 10; refine NW.out.mono ?_; rintro e w1 ⟨q, p, b, rfl, hs1, hb1, hq, hp, hbb⟩)
    | (go_at_call 11; refine (FR.out _ _ _ _ hs1).mono ?_; rintro e w' ⟨rfl, rfl⟩))
  go_loopw [32] (fun v wr => ∃ j : Nat, j ≤ 4 ∧ v = .int .i64 j ∧ Tr wr q p b G4 (S j) ∧ Turns (Own3 q p b) w1 wr) (fun v _ => 4 - (intOf v).toNat)
  case atStart => exact ⟨0, by omega, rfl, hs1, Turns.refl _ _⟩
  case round =>
    obtain ⟨j, hj, rfl, hs, hts⟩ := hrel
    by_cases hj4 : j < 4
    · have AJ := Lib.hid (AL.out j hj4)
      have SJ := Lib.hid (SR.out j hj4)
      generalize ((S j).incs G4 1).alloc 1 5 2 = HJ at *
      generalize 8 * ((S j).incs G4 1).firstFree 0 + 1 = cj at *
      go_wp2_with (first
        | (go_at_call 12; refine (AJ.out _ _ _ _ hs).mono ?_; rintro e w2 ⟨rfl, hs2, ht2⟩)
        | (go_at_call 13; refine (SJ.out _ _ _ _ hs2).mono ?_; rintro e w3 ⟨rfl, hs3, ht3⟩))
      go_roundw
      case rel => exact ⟨j + 1, by omega, by go_num, hs3, hts.trans (ht2.trans ht3)⟩
      case measure => simp [intOf]; omega
    · have hs4 : Hid (Tr wr q p b G4 (S 4)) := by
        have : j = 4 := by omega
        unfold Hid
        rw [← this]
        exact hs
      clear hs
      go_wp2_with (first
        | (go_at_call 14; refine (VD.out _).mono ?_; rintro e w' ⟨rfl, rfl⟩)
        | (go_at_call 17; refine (UD.out _).mono ?_; rintro e w' ⟨rfl, rfl⟩)
        | (go_at_call 13; refine (SV.out _ _ _ _ hs4.out).mono ?_; rintro e w2 ⟨rfl, hs2, ht2⟩)
        | (go_at_call 15; refine (IN.out _ _ _ _ hs2).mono ?_; rintro e w3 ⟨rfl, hs3, ht3⟩)
        | (go_at_call 16; (with_reducible refine (SH.out _ _ _ _ hs3).mono ?_); rintro e w5 ⟨rfl, hs5, ht5⟩)
        | (go_at_call 12; refine (AU.out _ _ _ _ hs5).mono ?_; rintro e w6 ⟨rfl, hs6, ht6⟩)
        | (go_at_call 16; (with_reducible refine (SU.out _ _ _ _ hs6).mono ?_); rintro e w7 ⟨rfl, hs7, ht7⟩)
        | (go_at_call 18; refine (is_same _ _).mono ?_; rintro e w' ⟨rfl, rfl⟩)
        | (go_at_call 19; (with_reducible refine (C4.out _ hs7.tab).mono ?_); rintro e w' ⟨rfl, rfl⟩)
        | (go_at_call 19; (with_reducible refine (C8.out _ hs7.tab).mono ?_); rintro e w' ⟨rfl, rfl⟩))
      go_ret
      have htt := (((hts.trans ht2).trans ht3).trans ht5).trans (ht6.trans ht7)
      exact ⟨rfl, hb1.trans (htt.below hb1.size (fun k hk => by unfold Own3 at hk; omega))⟩
end Go.Proofs.YtclcnepkgjcmcaaDoor
