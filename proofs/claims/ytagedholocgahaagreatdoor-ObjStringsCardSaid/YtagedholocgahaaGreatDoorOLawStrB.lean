/- ObjStrings, walked. -/
import Derived.Test.YtagedholocgahaaGreatDoorOLawStr
namespace Go.Proofs.YtagedholocgahaaGreatDoor
open Go.ChangeShapes Go.WideShapes Go.ChangeAt Go.RowKit

theorem strV_at (s : ByteArray) (m j : Nat) : (strV s m).getD j (.w 0) = .w ((pks (byt s) s.size m s.size).getD j 0) := by
  unfold strV
  rw [List.getD_eq_getElem?_getD, List.getD_eq_getElem?_getD, List.getElem?_map]
  cases (pks (byt s) s.size m s.size)[j]? <;> rfl
/-- the string in the register -/
def mS (s : ByteArray) (m : Nat) (x : Int) : Md := (Md.none.obj 0 2 (m + 1) x (strV s m) (m + 1)).setReg 0 (.t 0)
theorem mS_fld (s : ByteArray) (m : Nat) (x : Int) (j : Nat) (hj : j < m + 1) : (mS s m x).fld 0 j = .w ((pks (byt s) s.size m s.size).getD j 0) := by
  show (if 0 = 0 then (if j < m + 1 then (strV s m).getD j (.w 0) else V.w (blank 2)) else V.w 12) = _
  rw [if_pos rfl, if_pos hj, strV_at]
def tS : Nat → Int := tgs (fun _ => 0) 0 2
theorem neq_str (s : ByteArray) (w : World) : (binOp .neq 9 (.string s) (.string s)).run Tryz.prog w = .ok (.bool false) w := by
  simp [binOp, Op.stringOp]

set_option maxHeartbeats 1000000 in
set_option maxRecDepth 100000 in
theorem objStrings_walk (s : ByteArray) (steps : Int) (w : World) (ht : Tab w) (hsz : s.size ≤ maxLen) (s0 : 0 ≤ steps) (s1 : steps ≤ 255) :
    Calls Tryz.prog 7 #[.string s, .int .u8 steps] w fun e w' => e = .returned (.bool true) ∧ Below w.heap.size w w' := by
  unfold maxLen at hsz
  have AW := Lib.hid (awake06_any w ht)
  have T1 := Lib.hid (fun w1 (h : Below w.heap.size w w1) => ht.turns (Turns.of_below h (fun _ => False)) (fun h => h))
  have AW2 := Lib.hid (fun w1 (h : Below w.heap.size w w1) => awake06_any w1 (T1.out w1 h))
  have BG := Lib.hid (fun w1 (h : Below w.heap.size w w1) => begun_any w1 (T1.out w1 h))
  have KF := Lib.hid (fun w => kind_fourteen w)
  have KN := Lib.hid (fun w => kind_nine w)
  clear ht
  by_cases h1000 : s.size ≤ 1000
  · by_cases h500 : s.size ≤ 500
    · have ST := Lib.hid (fun q p b w1 (o : Os w1 q p b 0 G2 Md.none (fun _ => 0) 0 (fun _ => False)) => str_of o s h500 (by decide) (fun c hc => G2_room hc (by omega)))
      have SR : Hid (∀ q p b m x w1, Os w1 q p b (0 + G2.k.toNat) G2 (Md.none.obj 0 2 (m + 1) x (strV s m) (m + 1)) (tgs (fun _ => 0) 0 2) (0 + 1) (plus (Reach Md.none) 0) → Calls Tryz.prog 30 #[.pointer (some ⟨q, 0, none⟩), .int .i64 0, .int .u64 (8 * x + 1)] w1 fun e w' =>
          e = .returned .nilIface ∧ Os w' q p b 2 G2 (mS s m x) tS 1 (plus (Reach Md.none) 0) ∧ Turns (Own3 q p b) w1 w') := fun q p b m x w1 h1 => h1.setRoot 0 (by omega) (v := .t 0) trivial (.inr rfl)
      have IN : Hid (∀ q p b m x w1, Os w1 q p b 2 G2 (mS s m x) tS 1 (plus (Reach Md.none) 0) → Calls Tryz.prog 16 #[.pointer (some ⟨q, 0, none⟩), .int .i64 steps] w1 fun e w' =>
          e = .returned (.tuple #[]) ∧ Os w' q p b (2 + steps.toNat) G2 (mS s m x) tS 1 (Reach (mS s m x)) ∧ Turns (Own3 q p b) w1 w') := fun q p b m x w1 h1 => h1.incs steps (by omega) (by omega)
      have R0 : ∀ m x, Reach (mS s m x) 0 := fun m x => reach_reg (r := 0) (by omega) rfl
      have TX : Hid (∀ q p b m x w1, m = (s.size + 7) / 8 → Os w1 q p b (2 + steps.toNat) G2 (mS s m x) tS 1 (Reach (mS s m x)) → Calls Tryz.prog 36 #[.pointer (some ⟨q, 0, none⟩), .int .u64 (8 * x + 1)] w1 fun e w' =>
          e = .returned (.tuple #[.string s, .nilIface]) ∧ Os w' q p b (2 + steps.toNat) G2 (mS s m x) tS 1 (Reach (mS s m x)) ∧ Turns (Own3 q p b) w1 w') := fun q p b m x w1 hm h1 =>
        text_str h1 (z := 0) (R0 m x) s h500 m hm rfl rfl rfl (by rw [mS_fld _ _ _ _ (by omega)]; rfl) (fun k hk => by rw [mS_fld _ _ _ _ (by omega), pks_at _ _ _ _ _ hk])
      have WD := Lib.hid (fun w => words_any s h500 w)
      have TG : Hid (∀ q p b m x w1, Os w1 q p b (2 + steps.toNat) G2 (mS s m x) tS 1 (Reach (mS s m x)) → Calls Tryz.prog 33 #[.pointer (some ⟨q, 0, none⟩), .int .u64 (8 * x + 1)] w1 fun e w' =>
          e = .returned (.int .i64 2) ∧ Os w' q p b (2 + steps.toNat) G2 (mS s m x) tS 1 (Reach (mS s m x)) ∧ Turns (Own3 q p b) w1 w') := fun q p b m x w1 h1 => tag_of h1 (z := 0) (R0 m x)
      have LN : Hid (∀ q p b m x w1, Os w1 q p b (2 + steps.toNat) G2 (mS s m x) tS 1 (Reach (mS s m x)) → Calls Tryz.prog 34 #[.pointer (some ⟨q, 0, none⟩), .int .u64 (8 * x + 1)] w1 fun e w' =>
          e = .returned (.int .i64 ((m + 1 : Nat) : Int)) ∧ Os w' q p b (2 + steps.toNat) G2 (mS s m x) tS 1 (Reach (mS s m x)) ∧ Turns (Own3 q p b) w1 w') := fun q p b m x w1 h1 => len_of h1 (z := 0) (R0 m x)
      have GT : Hid (∀ q p b m x w1 (j : Nat), j < m + 1 → Os w1 q p b (2 + steps.toNat) G2 (mS s m x) tS 1 (Reach (mS s m x)) → Calls Tryz.prog 22 #[.pointer (some ⟨q, 0, none⟩), .int .u64 (8 * x + 1), .int .i64 (j : Int)] w1 fun e w' =>
          e = .returned (.tuple #[.int .u64 ((pks (byt s) s.size m s.size).getD j 0), .nilIface]) ∧ Os w' q p b (2 + steps.toNat) G2 (mS s m x) tS 1 (Reach (mS s m x)) ∧ Turns (Own3 q p b) w1 w') := fun q p b m x w1 j hj h1 => by
        have := h1.get (z := 0) (j := j) (R0 m x) hj
        rw [mS_fld _ _ _ _ hj] at this
        exact this
      have FD : Hid (∀ q p b m x w1, Os w1 q p b (2 + steps.toNat) G2 (mS s m x) tS 1 (Reach (mS s m x)) → Calls Tryz.prog 32 #[.pointer (some ⟨q, 0, none⟩), .int .u64 (8 * x + 1), .int .i64 2, .int .i64 0] w1 fun e w' =>
          e = .returned (.tuple #[.int .u64 0, .iface 86 (.int .i64 9)]) ∧ Os w' q p b (2 + steps.toNat) G2 (mS s m x) tS 1 (Reach (mS s m x)) ∧ Turns (Own3 q p b) w1 w') := fun q p b m x w1 h1 => field_no h1 (z := 0) (R0 m x) 2 0 9 rfl (by decide)
      have FS : Hid (∀ q p b m x w1, Os w1 q p b (2 + steps.toNat) G2 (mS s m x) tS 1 (Reach (mS s m x)) → Calls Tryz.prog 31 #[.pointer (some ⟨q, 0, none⟩), .int .u64 (8 * x + 1), .int .i64 2, .int .i64 0, .int .u64 4] w1 fun e w' =>
          e = .returned (.iface 86 (.int .i64 9)) ∧ Os w' q p b (2 + steps.toNat) G2 (mS s m x) tS 1 (Reach (mS s m x)) ∧ Turns (Own3 q p b) w1 w') := fun q p b m x w1 h1 => setField_no h1 (z := 0) (R0 m x) 2 0 9 4 rfl (by decide)
      have NS := neq_str s
      clear R0
      go_enter Tryz.func7, Tryz.ntmps7
      go_wp2_with (first
        | (go_at_call 24; (with_reducible refine AW.out.mono ?_); rintro e w1 ⟨rfl, hb1⟩)
        | (go_at_call 26; refine (BG.out _ hb1).mono ?_; rintro e w2 ⟨q, p, b, rfl, o2, hb2, hq, hp, hbb⟩)
        | (go_at_call 35; refine (ST.out _ _ _ _ o2).mono ?_; rintro e w3 ⟨m, x, hm0, rfl, o3, ht3⟩; have hm := Lib.hid hm0; clear hm0)
        | (go_at_call 30; refine (SR.out _ _ _ _ _ _ o3).mono ?_; rintro e w4 ⟨rfl, o4, ht4⟩)
        | (go_at_call 16; refine (IN.out _ _ _ _ _ _ o4).mono ?_; rintro e w5 ⟨rfl, o5, ht5⟩)
        | (go_at_call 36; refine (TX.out _ _ _ _ _ _ hm.out o5).mono ?_; rintro e w6 ⟨rfl, o6, ht6⟩)
        | (go_at_call 37
           refine (WD.out _).mono ?_
           rintro e w7 ⟨m', v, hm', rfl, hown, hb7⟩
           obtain rfl : m' = m := hm'.trans hm.out.symm
           have o7 := o6.quiet (Turns.of_below hb7 (fun _ => False))
           have hrd := hown.read
           rw [pks_len] at hrd
           obtain ⟨A7, c7, rfl, hr7⟩ := hrd
           clear hm')
        | (go_at_call 33; refine (TG.out _ _ _ _ _ _ o7).mono ?_; rintro e w8 ⟨rfl, o8, ht8⟩)
        | (go_at_call 34; refine (LN.out _ _ _ _ _ _ o8).mono ?_; rintro e w9 ⟨rfl, o9, ht9⟩))
      have hb12 := hb1.trans (hb2.mono hb1.size)
      have h10 := hb1.size
      have hb6 := law_end hb12 ((((ht3.trans ht4).trans ht5)).trans ht6) (by omega) (by omega) (by omega)
      have hb67 := hb6.trans (hb7.mono hb6.size)
      have hb9 := law_end hb67 (ht8.trans ht9) (by omega) (by omega) (by omega)
      have hlt6 := o6.lt
      have hnb : ∀ g, (Value.slice A7 (m' + 1) c7).ownBlock = some g → ¬ Own3 q p b g := fun g hg h => by
        have := (hown.lt g hg).1
        unfold Own3 at h
        omega
      have ow9 := (hown.turns ht8 hnb).turns ht9 hnb
      have GJ := Lib.hid (fun w1 j hj h1 => GT.out q p b m' x w1 j hj h1)
      have FDx := Lib.hid (fun w1 h1 => FD.out q p b m' x w1 h1)
      have FSx := Lib.hid (fun w1 h1 => FS.out q p b m' x w1 h1)
      have ML := Lib.hid (pks_len (byt s) s.size m' s.size)
      have hL1 : m' + 1 ≤ 1000 := by
        have := hm.out
        omega
      clear GT FD FS TG LN TX IN SR ST WD hr7 o2 o3 o4 o5 o6 o7 o8 ht3 ht4 ht5 ht6 ht8 ht9 hb7 hb67 hb6 hb12 hb2 hlt6 AW AW2 BG T1 hown
      generalize pks (byt s) s.size m' s.size = xs at *
      generalize mS s m' x = M1 at *
      generalize 8 * x + 1 = cx at *
      obtain ⟨L, hL⟩ : ∃ L, m' + 1 = L := ⟨_, rfl⟩
      have hmL : (m' : Int) + 1 = L := by omega
      rw [hL] at GJ ML hL1 ow9 hnb ⊢
      clear hL
      go_wp2_with fail
      rw [hmL]
      clear hmL
      go_loopw [84] (fun v wr => ∃ j : Nat, j ≤ L ∧ v = .int .i64 j ∧ Os wr q p b (2 + steps.toNat) G2 M1 tS 1 (Reach M1) ∧ OwnW wr w6.heap.size (.slice A7 L c7) xs ∧ Below w.heap.size w wr) (fun v _ => L - (intOf v).toNat)
      case atStart => exact ⟨0, by omega, rfl, o9, ow9, hb9⟩
      case round =>
        obtain ⟨j, hj, rfl, o, ow, hb⟩ := hrel
        by_cases hjL : j < L
        · obtain ⟨g, rfl, -, -, hcell⟩ := ow.cell (j := j) (by rw [ML.out]; exact hjL)
          have GG := Lib.hid (GJ.out wr j hjL o)
          have OW := Lib.hid ow
          generalize xs.getD j 0 = y at *
          go_wp2_with (go_at_call 22; refine GG.out.mono ?_; rintro e w10 ⟨rfl, o10, ht10⟩)
          go_roundw
          case rel => exact ⟨j + 1, by omega, by go_num, o10, OW.out.turns ht10 hnb, law_end hb ht10 (by omega) (by omega) (by omega)⟩
          case measure => simp [intOf]; omega
        · go_wp2_with (first
            | (go_at_call 32; refine (FDx.out _ o).mono ?_; rintro e w10 ⟨rfl, o10, ht10⟩; have hb10 := law_end hb ht10 (by omega) (by omega) (by omega))
            | (go_at_call 29; (with_reducible refine (KN.out _).mono ?_); rintro e w11 ⟨rfl, hb11⟩; have o11 := o10.quiet (Turns.of_below hb11 (fun _ => False)); have hb12 := hb10.trans (hb11.mono hb10.size); clear hb10)
            | (go_at_call 31; refine (FSx.out _ o11).mono ?_; rintro e w13 ⟨rfl, o13, ht13⟩; have hb13 := law_end hb12 ht13 (by omega) (by omega) (by omega); clear hb12; have hb10 := hb13; have o10 := o13))
          go_ret
          exact ⟨rfl, hb12⟩
    · have SN := Lib.hid (fun q w => str_no s (by omega) (by unfold maxLen; omega) q w)
      go_enter Tryz.func7, Tryz.ntmps7
      go_wp2_with (first
        | (go_at_call 24; (with_reducible refine AW.out.mono ?_); rintro e w1 ⟨rfl, hb1⟩)
        | (go_at_call 26; refine (BG.out _ hb1).mono ?_; rintro e w2 ⟨q, p, b, rfl, o2, hb2, hq, hp, hbb⟩)
        | (go_at_call 35; refine (SN.out _ _).mono ?_; rintro e w' ⟨rfl, rfl⟩)
        | (go_at_call 29; refine (KF.out _).mono ?_; rintro e w4 ⟨rfl, hb4⟩))
      go_ret
      have hb12 := hb1.trans (hb2.mono hb1.size)
      exact ⟨rfl, hb12.trans (hb4.mono hb12.size)⟩
  · go_enter Tryz.func7, Tryz.ntmps7
    go_wp2_with (first
      | (go_at_call 24; (with_reducible refine AW.out.mono ?_); rintro e w1 ⟨rfl, hb1⟩)
      | (go_at_call 24; refine (AW2.out _ hb1).mono ?_; rintro e w3 ⟨rfl, hb3⟩))
    go_ret
    exact ⟨rfl, hb1.trans (hb3.mono hb1.size)⟩
end Go.Proofs.YtagedholocgahaaGreatDoor
