/- ObjKept, walked. -/
import Derived.Test.YtagedholocgahaaGreatDoorOLawKept
namespace Go.Proofs.YtagedholocgahaaGreatDoor
open Go.ChangeShapes Go.WideShapes Go.ChangeAt Go.RowKit

theorem u_mod6 (n m : Int) (h0 : 0 < m) (h1 : m ≤ 1000) : wrap64 ((IntKind.u64.wrap n).tmod m) = n % 18446744073709551616 % m := by
  rw [IntKind.wrap_u64, Int.tmod_eq_emod_of_nonneg (by omega)]
  have a := Int.emod_nonneg (n % 18446744073709551616) (show m ≠ 0 by omega)
  have b := Int.emod_lt_of_pos (n % 18446744073709551616) h0
  unfold wrap64
  omega
theorem mk_fix (k : Nat) (hk : k < 1000) : WM.mk 0 k = 8 * k ∧ WM.hd 0 k = true ∧ WM.kd (8 * k) = 1 ∧ WM.vl (8 * k) = k := by
  have h1 : WM.mk 0 k = 8 * k := by unfold WM.mk; omega
  have h2 : WM.hd 0 k = true := by simp [WM.hd, WM.least, WM.most]; omega
  have h3 : WM.nm (8 * k) = k := by unfold WM.nm wrap64; omega
  have h4 : WM.kd (8 * (k : Int)) = 1 := by
    unfold WM.kd
    rw [h3, show (8 * (k : Int)) % 8 = 0 by omega, h2]
    rfl
  exact ⟨h1, h2, h4, by rw [WM.vl, h4, if_neg (by decide), h3]⟩

theorem stp_facts (i j d : Nat) (hi : 0 < i) (hd : (i : Int) - 1 = d) : ∃ m : Nat, (j : Int).tmod (i : Int) = m ∧ ((d : Int) - m + i).tmod (i : Int) = (stp i j : Int) ∧ 0 ≤ (d : Int) - m + i ∧ m ≤ d := by
  have hmi : j % i < i := Nat.mod_lt _ hi
  refine ⟨j % i, ?_, ?_, by omega, by omega⟩
  · rw [Int.tmod_eq_emod_of_nonneg (Int.natCast_nonneg j)]
    exact (Int.natCast_emod j i).symm
  · have hs : stp i j = i - 1 - j % i := rfl
    generalize j % i = m at *
    have h0 : 0 ≤ (d : Int) - m + i := by omega
    rw [Int.tmod_eq_emod_of_nonneg h0, show (d : Int) - m + i = (stp i j : Int) + i by omega, Int.add_emod_right]
    exact Int.emod_eq_of_lt (by omega) (by omega)

set_option maxHeartbeats 2000000 in
set_option maxRecDepth 100000 in
theorem objKept_walk (num turn : Int) (w : World) (ht : Tab w) :
    Calls Tryz.prog 9 #[.int .i64 num, .int .i64 turn] w fun e w' => e = .returned (.bool true) ∧ Below w.heap.size w w' := by
  have T1 := Lib.hid (fun w1 (h : Below w.heap.size w w1) => ht.turns (Turns.of_below h (fun _ => False)) (fun h => h))
  have AW2 := Lib.hid (fun w1 (h : Below w.heap.size w w1) => awake06_any w1 (T1.out w1 h))
  have BG := Lib.hid (begun_any w ht)
  obtain ⟨N, hN⟩ : ∃ N : Nat, 1 + wrap64 ((IntKind.u64.wrap num).tmod 60) = N := by
    rw [u_mod6 num 60 (by omega) (by omega)]
    exact ⟨(1 + num % 18446744073709551616 % 60).toNat, by omega⟩
  have hN60 : 0 < N ∧ N ≤ 60 := by
    rw [u_mod6 num 60 (by omega) (by omega)] at hN
    omega
  obtain ⟨T, hT⟩ : ∃ T : Nat, wrap64 ((IntKind.u64.wrap turn).tmod 900) = T := by
    rw [u_mod6 turn 900 (by omega) (by omega)]
    exact ⟨(turn % 18446744073709551616 % 900).toNat, by omega⟩
  have hT900 : T < 900 := by
    rw [u_mod6 turn 900 (by omega) (by omega)] at hT
    omega
  have NL := Lib.hid (fun w => nil_any w)
  have SN : Hid (∀ q p b w1, Os w1 q p b 0 G2 Md.none (fun _ => 0) 0 (fun _ => False) → Calls Tryz.prog 30 #[.pointer (some ⟨q, 0, none⟩), .int .i64 0, .int .u64 4] w1 fun e w' =>
      e = .returned .nilIface ∧ Os w' q p b 0 G2 (Md.none.setReg 0 (.w 4)) (fun _ => 0) 0 (fun _ => False) ∧ Turns (Own3 q p b) w1 w') := fun q p b w1 h1 => h1.setRoot 0 (by omega) (v := .w 4) ok4 trivial
  have L0 := Lib.hid lst_none
  have E2 : Hid ((G2.k.toNat : Int) = 2) := rfl
  clear ht
  have hn0 := hN60.1
  have hn60 := hN60.2
  go_enter Tryz.func9, Tryz.ntmps9
  go_wp2_with (first
    | (go_at_call 26; refine BG.out.mono ?_; rintro e w1 ⟨q, p, b, rfl, o1, hb1, hq, hp, hbb⟩)
    | (go_at_call 24; refine (AW2.out _ hb1).mono ?_; rintro e w2 ⟨rfl, hb2⟩; have o2 := o1.quiet (Turns.of_below hb2 (fun _ => False)); have hb12 := hb1.trans (hb2.mono hb1.size))
    | (go_at_call 39; refine (NL.out _).mono ?_; rintro e w' ⟨rfl, rfl⟩)
    | (go_at_call 30; refine (SN.out _ _ _ _ o2).mono ?_; rintro e w3 ⟨rfl, o3, ht3⟩))
  have hb3 := law_end hb12 ht3 hq hp hbb
  clear hN
  go_loopw [41] (fun v wr => ∃ (i : Nat) (M : Md) (tg : Nat → Int) (K : Nat → Prop), i ≤ N ∧ v = .int .i64 i ∧ Lst M i ∧ (∀ k, k < i → tg k = 1) ∧ Os wr q p b (2 * i) G2 M tg i K ∧ Below w.heap.size w wr) (fun v _ => N - (intOf v).toNat)
  case atStart => exact ⟨0, _, _, _, by omega, rfl, L0.out, fun k h => absurd h (by omega), o3, hb3⟩
  case round =>
    obtain ⟨i, M, tg, K, hi, rfl, hL, htg, o, hb⟩ := hrel
    by_cases hiN : i < N
    · have hpq := hb.size
      have hi1 : i < 1000 := by omega
      have RT := Lib.hid (o.root 0 (by omega))
      have FX : Hid (∀ w, Calls Tryz.prog 41 #[.int .i64 (i : Int)] w fun e w' => e = .returned (.tuple #[.int .u64 (8 * (i : Int)), .nilIface]) ∧ w = w') := fun w => by
        have := fix_any i w
        rw [made, (mk_fix i hi1).2.1, if_pos rfl, (mk_fix i hi1).1] at this
        exact this
      have hok : (V.w (8 * (i : Int))).ok := ok_w (by omega) (by omega) (by rw [(mk_fix i hi1).2.2.1]; decide)
      have MK := Lib.hid (fun w1 (h1 : Os w1 q p b (2 * i) G2 M tg i K) => make_pair h1 (.w (8 * (i : Int))) (M.reg 0) ⟨hok, trivial⟩ hL.wd (by rw [E2.out]; omega) (show (i : Int) < 200 by omega))
      have SR : Hid (∀ x w1, Os w1 q p b (2 * i + G2.k.toNat) G2 (M.obj i 1 2 x [.w (8 * (i : Int)), M.reg 0] 2) (tgs tg i 1) (i + 1) (plus (Reach M) i) → Calls Tryz.prog 30 #[.pointer (some ⟨q, 0, none⟩), .int .i64 0, .int .u64 (8 * x + 1)] w1 fun e w' =>
          e = .returned .nilIface ∧ Os w' q p b (2 * (i + 1 : Nat)) G2 ((M.obj i 1 2 x [.w (8 * (i : Int)), M.reg 0] 2).setReg 0 (.t i)) (tgs tg i 1) (i + 1) (plus (Reach M) i) ∧ Turns (Own3 q p b) w1 w') := fun x w1 h1 => by
        have := h1.setRoot 0 (by omega) (v := .t i) trivial (.inr rfl)
        rw [show (V.t i).wd (M.obj i 1 2 x [.w (8 * (i : Int)), M.reg 0] 2).cell = 8 * x + 1 by
          show 8 * (if i = i then x else M.cell i) + 1 = _
          rw [if_pos rfl]] at this
        rw [show (2 * ((i + 1 : Nat) : Int)) = 2 * i + (G2.k.toNat : Int) by rw [E2.out]; omega]
        exact this
      have NX := Lib.hid (fun x => hL.next (x := x))
      have TG : Hid (∀ k, k < i + 1 → tgs tg i 1 k = 1) := fun k hk => by
        unfold tgs
        split
        · rfl
        · exact htg k (by omega)
      have e0 : Hid ((V.w (8 * (i : Int))).wd M.cell = 8 * (i : Int)) := rfl
      rw [e0.out] at MK
      clear hL htg hok o
      generalize (M.reg 0).wd M.cell = r at *
      generalize 8 * (i : Int) = y at *
      go_wp2_with (first
        | (go_at_call 40; refine RT.out.mono ?_; rintro e w4 ⟨rfl, o4, ht4⟩)
        | (go_at_call 41; refine (FX.out _).mono ?_; rintro e w' ⟨rfl, rfl⟩)
        | (go_at_call 27; refine (MK.out _ o4).mono ?_; rintro e w5 ⟨x, rfl, o5, ht5⟩)
        | (go_at_call 30; refine (SR.out _ _ o5).mono ?_; rintro e w6 ⟨rfl, o6, ht6⟩))
      go_roundw
      case rel => exact ⟨i + 1, _, _, _, by omega, by go_num, NX.out x, TG.out, o6, law_end hb ((ht4.trans ht5).trans ht6) (by omega) (by omega) (by omega)⟩
      case measure => simp [intOf]; omega
    · obtain rfl : i = N := by omega
      have hpq := hb.size
      obtain ⟨P, hP⟩ : ∃ P : Nat, i = P + 1 := ⟨i - 1, by omega⟩
      have hPi : (i : Int) - 1 = P := by omega
      have o2' : Os wr q p b (2 * i) G2 M tg i (Reach M) := o.fewer fun _ h => .inr h
      have hreg : (M.reg 0).wd M.cell = 8 * M.cell P + 1 := by
        rw [hL.reg, if_neg (by omega), show i - 1 = P by omega]
        rfl
      have RT := Lib.hid (hreg ▸ o2'.root 0 (by omega))
      have FD : Hid (∀ d w1, d < P → Os w1 q p b (2 * i) G2 M tg i (Reach M) → Calls Tryz.prog 32 #[.pointer (some ⟨q, 0, none⟩), .int .u64 (8 * M.cell (P - d) + 1), .int .i64 1, .int .i64 1] w1 fun e w' =>
          e = .returned (.tuple #[.int .u64 (8 * M.cell (P - (d + 1)) + 1), .nilIface]) ∧ Os w' q p b (2 * i) G2 M tg i (Reach M) ∧ Turns (Own3 q p b) w1 w') := fun d w1 hd h1 => by
        have hk : P - d < i := by omega
        have := field_of h1 (z := P - d) (j := 1) (hL.all _ hk) (by rw [hL.len _ hk]; omega) (by rw [hL.form _ hk]; omega)
        rw [htg _ hk, hL.two _ hk, if_neg (by omega), show P - d - 1 = P - (d + 1) by omega] at this
        exact this
      have SF : Hid (∀ w1, Os w1 q p b (2 * i) G2 M tg i (Reach M) → Calls Tryz.prog 31 #[.pointer (some ⟨q, 0, none⟩), .int .u64 (8 * M.cell 0 + 1), .int .i64 1, .int .i64 1, .int .u64 (8 * M.cell P + 1)] w1 fun e w' =>
          e = .returned .nilIface ∧ Os w' q p b (2 * i) G2 (M.setFld 0 1 (.t P)) tg i (Reach M) ∧ Turns (Own3 q p b) w1 w') := fun w1 h1 => by
        have := setField_of h1 (z := 0) (j := 1) (hL.all 0 (by omega)) (by rw [hL.len 0 (by omega)]; omega) (hL.form 0 (by omega)) (v := .t P) trivial (hL.all P (by omega))
        rw [htg 0 (by omega)] at this
        exact this
      have RG : Hid (Rng' (M.setFld 0 1 (.t P)) i) := by
        have := hL.ring (by omega)
        rw [show i - 1 = P by omega] at this
        exact this
      have hcell : (M.setFld 0 1 (.t P)).cell = M.cell := rfl
      have INC : Hid (∀ w1, Os w1 q p b (2 * i) G2 (M.setFld 0 1 (.t P)) tg i (Reach M) → Calls Tryz.prog 16 #[.pointer (some ⟨q, 0, none⟩), .int .i64 (T : Int)] w1 fun e w' =>
          e = .returned (.tuple #[]) ∧ Os w' q p b (2 * i + T) G2 (M.setFld 0 1 (.t P)) tg i (Reach (M.setFld 0 1 (.t P))) ∧ Turns (Own3 q p b) w1 w') := fun w1 h1 => h1.incs (T : Int) (by omega) (by rw [Int.toNat_natCast]; omega)
      have F0 : Hid (∀ j w1, Os w1 q p b (2 * i + T) G2 (M.setFld 0 1 (.t P)) tg i (Reach (M.setFld 0 1 (.t P))) → Calls Tryz.prog 32 #[.pointer (some ⟨q, 0, none⟩), .int .u64 (8 * M.cell (stp i j) + 1), .int .i64 1, .int .i64 0] w1 fun e w' =>
          e = .returned (.tuple #[.int .u64 (8 * (stp i j : Int)), .nilIface]) ∧ Os w' q p b (2 * i + T) G2 (M.setFld 0 1 (.t P)) tg i (Reach (M.setFld 0 1 (.t P))) ∧ Turns (Own3 q p b) w1 w') := fun j w1 h1 => by
        have hk := stp_lt i j (by omega)
        have := field_of h1 (z := stp i j) (j := 0) (RG.out.all _ hk) (by rw [RG.out.len _ hk]; omega) (by rw [RG.out.form _ hk]; omega)
        rw [htg _ hk, RG.out.one _ hk] at this
        exact this
      have F1 : Hid (∀ j w1, Os w1 q p b (2 * i + T) G2 (M.setFld 0 1 (.t P)) tg i (Reach (M.setFld 0 1 (.t P))) → Calls Tryz.prog 32 #[.pointer (some ⟨q, 0, none⟩), .int .u64 (8 * M.cell (stp i j) + 1), .int .i64 1, .int .i64 1] w1 fun e w' =>
          e = .returned (.tuple #[.int .u64 (8 * M.cell (stp i (j + 1)) + 1), .nilIface]) ∧ Os w' q p b (2 * i + T) G2 (M.setFld 0 1 (.t P)) tg i (Reach (M.setFld 0 1 (.t P))) ∧ Turns (Own3 q p b) w1 w') := fun j w1 h1 => by
        have hk := stp_lt i j (by omega)
        have := field_of h1 (z := stp i j) (j := 1) (RG.out.all _ hk) (by rw [RG.out.len _ hk]; omega) (by rw [RG.out.form _ hk]; omega)
        rw [htg _ hk, RG.out.next (by omega)] at this
        exact this
      have VV : Hid (∀ j w, Calls Tryz.prog 42 #[.int .u64 (8 * (stp i j : Int))] w fun e w' => e = .returned (.int .i64 (stp i j : Int)) ∧ w = w') := fun j w => by
        have hk := stp_lt i j (by omega)
        have := value_any (8 * (stp i j : Int)) (by omega) (by omega) w
        rw [(mk_fix (stp i j) (by omega)).2.2.2] at this
        exact this
      have HPh := Lib.hid hP
      have hP60 : P < 60 := by omega
      have S0 : Hid (stp i 0 = P) := by unfold Hid stp; rw [Nat.zero_mod]; omega
      have S2 : Hid (stp i (2 * i) = P) := by unfold Hid stp; rw [Nat.mul_mod_left]; omega
      clear hL htg o o2' hreg hP hcell RG
      generalize M.setFld 0 1 (.t P) = M3 at *
      obtain ⟨C, hC⟩ : ∃ C : Nat → Int, ∀ k, 8 * M.cell k + 1 = C k := ⟨fun k => 8 * M.cell k + 1, fun _ => rfl⟩
      simp only [hC] at RT FD SF F0 F1
      clear hC
      go_wp2_with (go_at_call 40; refine RT.out.mono ?_; rintro e w4 ⟨rfl, o4, ht4⟩)
      have hb4 := law_end hb ht4 (by omega) (by omega) (by omega)
      go_loopw [15, 79] (fun lv v wr2 => ∃ d : Nat, d ≤ P ∧ v = .int .i64 d ∧ lv = .int .u64 (C (P - d)) ∧ Os wr2 q p b (2 * i) G2 M tg i (Reach M) ∧ Below w.heap.size w wr2) (fun _ v _ => P - (intOf v).toNat)
      case atStart => exact ⟨0, by omega, rfl, rfl, o4, hb4⟩
      case round =>
        obtain ⟨d, hd, rfl, rfl, o5, hb5⟩ := hrel
        by_cases hdP : d < P
        · have FJ := Lib.hid (FD.out d _ hdP o5)
          generalize hcd : C (P - d) = cd at *
          go_wp2_with (go_at_call 32; refine FJ.out.mono ?_; rintro e w6 ⟨rfl, o6, ht6⟩)
          go_roundw
          case rel => exact ⟨d + 1, by omega, by go_num, rfl, o6, law_end hb5 ht6 (by omega) (by omega) (by omega)⟩
          case measure => simp [intOf]; omega
        · obtain rfl : d = P := by omega
          rw [Nat.sub_self]
          go_wp2_with (first
            | (go_at_call 31; refine (SF.out _ o5).mono ?_; rintro e w6 ⟨rfl, o6, ht6⟩)
            | (go_at_call 16; refine (INC.out _ o6).mono ?_; rintro e w7 ⟨rfl, o7, ht7⟩))
          have hb7 := law_end hb5 (ht6.trans ht7) (by omega) (by omega) (by omega)
          have hat0 : Hid (C (stp i 0) = C d) := congrArg C S0.out
          have hat2 : Hid (C (stp i (2 * i)) = C d) := congrArg C S2.out
          clear FD SF INC RT AW2 BG T1 SN L0
          go_loopw [16, 102] (fun av v wr3 => ∃ j : Nat, j ≤ 2 * i ∧ v = .int .i64 j ∧ av = .int .u64 (C (stp i j)) ∧ Os wr3 q p b (2 * i + T) G2 M3 tg i (Reach M3) ∧ Below w.heap.size w wr3) (fun _ v _ => 2 * i - (intOf v).toNat)
          case atStart => exact ⟨0, by omega, rfl, by rw [hat0.out], o7, hb7⟩
          case round =>
            obtain ⟨j, hj, rfl, rfl, o8, hb8⟩ := hrel
            by_cases hji : j < 2 * i
            · have G0 := Lib.hid (F0.out j)
              have G1 := Lib.hid (F1.out j)
              have GV := Lib.hid (VV.out j)
              obtain ⟨m, hjm, hv1, hs0, hmd⟩ := stp_facts i j d (by omega) hPi
              have hw0 : IntKind.i64.wrap (d : Int) = d := by rw [IntKind.wrap_i64]; omega
              have hw1 : IntKind.i64.wrap ((d : Int) - m) = d - m := by rw [IntKind.wrap_i64]; omega
              have hw2 : IntKind.i64.wrap ((d : Int) - m + i) = d - m + i := by rw [IntKind.wrap_i64]; omega
              have hi00 : ¬ i = 0 := by omega
              clear F0 F1 VV
              generalize (stp i j : Int) = sv' at *
              generalize hcc : C (stp i j) = cc at *
              go_wp2_with (first
                | (go_at_call 32; (with_reducible refine (G0.out _ o8).mono ?_); rintro e w9 ⟨rfl, o9, ht9⟩))
              go_region_held3 (fun w' => True) (trivial) (first | (go_at_call 42; refine (GV.out _).mono ?_; rintro e w' ⟨rfl, rfl⟩))
              all_goals
                go_wp2_with (go_at_call 32; (with_reducible refine (G1.out _ o9.drew).mono ?_); rintro e w10 ⟨rfl, o10, ht10⟩)
                go_roundw
                case rel => exact ⟨j + 1, by omega, by go_num, rfl, o10, law_end hb8 (ht9.trans (Turns.of_drew ht10)) (by omega) (by omega) (by omega)⟩
                case measure => simp [intOf]; omega
            · obtain rfl : j = 2 * i := by omega
              rw [hat2.out]
              go_wp2_with fail
              go_ret
              exact ⟨rfl, hb8⟩
end Go.Proofs.YtagedholocgahaaGreatDoor
