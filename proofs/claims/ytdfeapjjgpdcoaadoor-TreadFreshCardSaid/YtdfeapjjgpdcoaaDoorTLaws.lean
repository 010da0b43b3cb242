/- TreadNil and TreadRoots, walked. -/
import Derived.Test.YtdfeapjjgpdcoaaDoorTAwake
import Derived.Test.YtdfeapjjgpdcoaaDoorTInvI
import Derived.Test.YtdfeapjjgpdcoaaDoorLaw
namespace Go.Proofs.YtdfeapjjgpdcoaaDoor
open Go.ChangeShapes Go.WideShapes Go.ChangeAt Go.RowKit

theorem kind_one (w : World) :
    Calls Tryd.prog 18 #[.iface 70 (.int .i64 1)] w fun e w' => e = .returned (.int .i64 1) ∧ Below w.heap.size w w' := by
  go_enter Tryd.func18, Tryd.ntmps18
  go_wp2
  refine wp_loop_rounds 1 ?_
  rw [rounds_succ]
  go_wp2_with (go_at_call 30; (with_reducible refine (is_same _ _).mono ?_); rintro e w' ⟨rfl, rfl⟩)
  go_ret
  exact ⟨rfl, (Below.refl _ _).alloc (Nat.le_refl _) _⟩
/-- what a call that makes memory leaves of an elder world -/
theorem below_then {a w w' : World} (h : Below a.heap.size a w) (k : Below w.heap.size w w') : Below a.heap.size a w' := h.trans (k.mono h.size)

set_option maxHeartbeats 1000000 in
set_option maxRecDepth 100000 in
theorem treadNil_walk (n i v : Int) (w : World) (ht : Tab w) :
    Calls Tryd.prog 4 #[.int .i64 n, .int .i64 i, .int .u64 v] w fun e w' => e = .returned (.bool true) ∧ Below w.heap.size w w' := by
  have AW := Lib.hid (awake_any w ht)
  have FA : Hid (∀ w, Calls Tryd.prog 14 #[.pointer none, .int .i64 1, .int .i64 0, .int .i64 1] w fun e w' => e = .returned (.tuple #[.int .u64 0, .iface 70 (.int .i64 1)]) ∧ w = w') := fun w => by
    have := alloc_nil 1 0 1 w
    rw [er_yes (by omega)] at this
    exact this
  clear ht
  go_enter Tryd.func4, Tryd.ntmps4
  go_wp2_with (first
    | (go_at_call 13; refine (incs_nil _ _).mono ?_; rintro e w' ⟨rfl, rfl⟩)
    | (go_at_call 14; refine (FA.out _).mono ?_; rintro e w' ⟨rfl, rfl⟩)
    | (go_at_call 15; refine (Get_nil _ _ _).mono ?_; rintro e w' ⟨rfl, rfl⟩)
    | (go_at_call 16; refine (Root_nil _ _).mono ?_; rintro e w' ⟨rfl, rfl⟩)
    | (go_at_call 17; refine (Shape_nil _ _).mono ?_; rintro e w' ⟨rfl, rfl⟩)
    | (go_at_call 7; refine AW.out.mono ?_; rintro e w1 ⟨rfl, hb1⟩)
    | (go_at_call 18
       refine (kind_one _).mono ?_
       rintro e w2 ⟨rfl, hb2⟩
       have hb3 := below_then hb1 hb2
       clear hb1 hb2
       have hb1 := hb3
       clear hb3)
    | (go_at_call 19; refine (Set_nil _ _ _ _).mono ?_; rintro e w' ⟨rfl, rfl⟩)
    | (go_at_call 20; refine (SetRoot_nil _ _ _).mono ?_; rintro e w' ⟨rfl, rfl⟩)
    | (go_at_call 21; refine (Marking_nil _).mono ?_; rintro e w' ⟨rfl, rfl⟩)
    | (go_at_call 22; refine (Cycles_nil _).mono ?_; rintro e w' ⟨rfl, rfl⟩)
    | (go_at_call 23; refine (Free_nil _ _).mono ?_; rintro e w' ⟨rfl, rfl⟩)
    | (go_at_call 24; refine (Work_nil _).mono ?_; rintro e w' ⟨rfl, rfl⟩))
  all_goals
    go_ret
    exact ⟨rfl, hb1⟩

/-- int(uint(n) % m) -/
theorem u_mod (n m : Int) (h0 : 0 < m) (h1 : m ≤ 1000) : wrap64 ((IntKind.u64.wrap n).tmod m) = n % 18446744073709551616 % m := by
  rw [IntKind.wrap_u64, Int.tmod_eq_emod_of_nonneg (by omega)]
  have a := Int.emod_nonneg (n % 18446744073709551616) (show m ≠ 0 by omega)
  have b := Int.emod_lt_of_pos (n % 18446744073709551616) h0
  unfold wrap64
  omega
/-- the registers hold what was set, up to j -/
def Regs (H : Hp) (zs : List Int) (j : Nat) : Prop := ∀ i : Nat, i < j → gv H.ws (i : Int) = zs.getD i 0

set_option maxHeartbeats 1000000 in
set_option maxRecDepth 100000 in
theorem treadRoots_walk (A : Option Addr) (m c : Nat) (zs : List Int) (at_ n : Int) (w : World) (ht : Tab w) (hn : m ≤ maxLen) (hz : Came w .u64 A m zs) (hwf : ∀ i, 0 ≤ zs.getD i 0 ∧ zs.getD i 0 < 18446744073709551616) :
    Calls Tryd.prog 5 #[.slice A m c, .int .i64 at_, .int .i64 n] w fun e w' => e = .returned (.bool true) ∧ Below w.heap.size w w' := by
  unfold maxLen at hn
  have NW := Lib.hid (new_yes G4 G4_ok w ht)
  have AW := Lib.hid (fun w ht => awake_any w ht)
  have E0 : Hid (G4.n.a = 4 ∧ G4.n.b = 0 ∧ G4.n.c = 0 ∧ G4.n.d = 0 ∧ G4.k = 1) := ⟨rfl, rfl, rfl, rfl, rfl⟩
  obtain ⟨ea, eb, ec, ed, ek⟩ := E0.out
  rw [ea, eb, ec, ed, ek] at NW
  clear ea eb ec ed ek E0 ht
  have HZ := Lib.hid hz
  have NL := Lib.hid (fun w => nil_any w)
  have HW := Lib.hid hwf
  clear hz hwf
  by_cases hm : m ≤ 12
  · go_enter Tryd.func5, Tryd.ntmps5
    go_wp2_with (first
      | (go_at_call 25; refine NW.out.mono ?_; rintro e w1 ⟨q, p, b, rfl, hs1, hb1, hq, hp, hbb⟩)
      | (go_at_call 7; refine (AW.out _ hs1.tab).mono ?_; rintro e w2 ⟨rfl, hb2⟩))
    have hs2 : Tr w2 q p b G4 G4.fresh := by
      have := hs1.lt
      exact hs1.turns (Turns.of_below hb2 (fun _ => False)) (fun h => h) (fun h => h) (fun h => h) (fun h => h)
    have hb3 := below_then hb1 hb2
    clear hs1 hb1 hb2
    go_loopw [39] (fun v wr => ∃ (j : Nat) (H : Hp) (R : Nat → List Int), j ≤ m ∧ v = .int .i64 j ∧ Inv 0 G4 H R ∧ Regs H zs j ∧ Tr wr q p b G4 H ∧ Below w.heap.size w wr) (fun v _ => m - (intOf v).toNat)
    case atStart => exact ⟨0, _, _, by omega, rfl, (inv_fresh G4_ok).1, fun i hi => absurd hi (by omega), hs2, hb3⟩
    case round =>
      obtain ⟨j, H, R, hj, rfl, hi, hr, hs, hb⟩ := hrel
      by_cases hjm : j < m
      · obtain ⟨g, off, rfl, hg, hcell⟩ := HZ.out.at_ hb hjm
        obtain ⟨v0, v1⟩ := HW.out j
        have KK := Lib.hid (fun w => kind_any (zs.getD j 0) v0 v1 w)
        by_cases hk : WM.kd (zs.getD j 0) = 2
        · have hkb : (WM.kd (zs.getD j 0) == 2) = true := by simpa using hk
          clear hk
          generalize WM.kd (zs.getD j 0) = kd at *
          generalize zs.getD j 0 = z at *
          go_wp2_with (go_at_call 26; refine (KK.out _).mono ?_; rintro e w' ⟨rfl, rfl⟩)
          go_ret
          exact ⟨rfl, hb⟩
        · have hkb : (WM.kd (zs.getD j 0) == 2) = false := by simpa using hk
          have SJ := Lib.hid (SetRoot_yes hi (j : Int) (zs.getD j 0) (by omega) (by omega) v0 v1 (may_plain hk) wr hs)
          have IJ := Lib.hid (inv_setRoot hi (j := (j : Int)) (by omega) (by omega) v0 v1)
          have RJ : Hid (Regs (H.setRoot G4 j (zs.getD j 0)) zs (j + 1)) := fun k hk => by
            rw [setRoot_reg hi (j := (j : Int)) (by omega) (by omega) (by omega) (by omega) v0 v1]
            by_cases e : k = j
            · subst e
              rw [if_pos rfl]
            · rw [if_neg (by omega)]
              exact hr k (by omega)
          have HR := Lib.hid hr
          clear hk hr hs hi
          generalize H.setRoot G4 j (zs.getD j 0) = H2 at *
          generalize H.shadeR G4 R (zs.getD j 0) = R2 at *
          generalize WM.kd (zs.getD j 0) = kd at *
          generalize zs.getD j 0 = z at *
          go_wp2_with (first
            | (go_at_call 26; refine (KK.out _).mono ?_; rintro e w' ⟨rfl, rfl⟩)
            | (go_at_call 20; refine SJ.out.mono ?_; rintro e w3 ⟨rfl, hs3, ht3⟩))
          go_roundw
          case rel => exact ⟨j + 1, H2, R2, by omega, by go_num, IJ.out, RJ.out, hs3, hb.trans (ht3.below hb.size (fun k hk => by unfold Own3 at hk; omega))⟩
          case measure => simp [intOf]; omega
      · obtain rfl : j = m := by omega
        have hN : 0 ≤ n % 18446744073709551616 % 50 ∧ n % 18446744073709551616 % 50 < 50 := by omega
        obtain ⟨N, hN'⟩ := Int.eq_ofNat_of_zero_le hN.1
        have i1 := inv_incs hi N (by omega)
        have IN := Lib.hid (incs_any hi (N : Int) (by omega) (by omega) wr hs)
        have r1 : Regs (H.incs G4 N) zs j := fun k hk => (incs_reg hi (by omega) (by omega) N (by omega)).trans (hr k hk)
        have hl1 : 12 ≤ (H.incs G4 N).ws.length := by
          have := i1.len
          have := i1.ok.lines
          omega
        have hN50 : (N : Int) < 50 := by omega
        rw [Int.toNat_natCast, ← hN', ← u_mod n 50 (by omega) (by omega)] at IN
        clear hN hN' hs hi hr
        by_cases ha : 0 ≤ at_ ∧ at_ < 12
        · obtain ⟨a0, a1⟩ := ha
          have SR := Lib.hid (fun w1 (h1 : Tr w1 q p b G4 (H.incs G4 N)) => SetRoot_yes i1 at_ 4 a0 a1 (by omega) (by omega) (may_plain (by decide +kernel)) w1 h1)
          have r2 : ∀ k : Nat, k < j → gv ((H.incs G4 N).setRoot G4 at_ 4).ws (k : Int) = if (k : Int) = at_ then 4 else zs.getD k 0 := fun k hk => by
            rw [setRoot_reg i1 a0 a1 (by omega) (by omega) (by omega) (by omega), r1 k hk]
          have hl2 : 12 ≤ ((H.incs G4 N).setRoot G4 at_ 4).ws.length := by
            have := (inv_setRoot i1 a0 a1 (v := 4) (by omega) (by omega)).len
            have := G4_ok.lines
            omega
          have R2 := Lib.hid r2
          clear i1 r1 hl1 r2
          generalize (H.incs G4 N).setRoot G4 at_ 4 = H3 at *
          generalize H.incs G4 N = H2 at *
          go_wp2_with (first
            | (go_at_call 13; refine IN.out.mono ?_; rintro e w4 ⟨rfl, hs4, ht4⟩)
            | (go_at_call 27; refine (NL.out _).mono ?_; rintro e w' ⟨rfl, rfl⟩)
            | (go_at_call 20; refine (SR.out _ hs4).mono ?_; rintro e w5 ⟨rfl, hs5, ht5⟩))
          have hb5 := hb.trans ((ht4.trans ht5).below hb.size (fun k hk => by unfold Own3 at hk; omega))
          clear hs4 ht4 ht5 hb
          go_loopw [74] (fun v wr => ∃ (k : Nat), k ≤ j ∧ v = .int .i64 k ∧ Tr wr q p b G4 H3 ∧ Below w.heap.size w wr) (fun v _ => j - (intOf v).toNat)
          case atStart => exact ⟨0, by omega, rfl, hs5, hb5⟩
          case round =>
            obtain ⟨k, hk, rfl, hs, hb⟩ := hrel
            by_cases hkj : k < j
            · obtain ⟨g, off, rfl, hg, hcell⟩ := HZ.out.at_ hb hkj
              have RT := Lib.hid (R2.out k hkj ▸ Root_yes (k : Int) (by omega) (by omega) hl2 wr hs)
              by_cases e : (k : Int) = at_
              · rw [if_pos e] at RT
                have eb : ((k : Int) == at_) = true := by simpa using e
                clear e hs
                go_wp2_with (first
                  | (go_at_call 27; refine (NL.out _).mono ?_; rintro e w' ⟨rfl, rfl⟩)
                  | (go_at_call 16; refine RT.out.mono ?_; rintro e w6 ⟨rfl, hs6, ht6⟩))
                go_roundw
                case rel => exact ⟨k + 1, by omega, by go_num, hs6, hb.trans (ht6.below hb.size (fun k hk => by unfold Own3 at hk; omega))⟩
                case measure => simp [intOf]; omega
              · rw [if_neg e] at RT
                have eb : ((k : Int) == at_) = false := by simpa using e
                clear e hs
                generalize zs.getD k 0 = z at *
                go_wp2_with (first
                  | (go_at_call 16; refine RT.out.mono ?_; rintro e w6 ⟨rfl, hs6, ht6⟩))
                go_roundw
                case rel => exact ⟨k + 1, by omega, by go_num, hs6, hb.trans (ht6.below hb.size (fun k hk => by unfold Own3 at hk; omega))⟩
                case measure => simp [intOf]; omega
            · go_wp2_with fail
              go_ret
              exact ⟨rfl, hb⟩
        · have SR := Lib.hid (fun w1 => SetRoot_no (q := q) at_ 4 (by omega) w1)
          have ha' : at_ < 0 ∨ 0 ≤ at_ ∧ 12 ≤ at_ := by omega
          have R1 := Lib.hid r1
          clear i1 r1 ha
          generalize H.incs G4 N = H3 at *
          rcases ha' with ha | ⟨ha, ha'⟩
          all_goals
            go_wp2_with (first
              | (go_at_call 13; refine IN.out.mono ?_; rintro e w4 ⟨rfl, hs4, ht4⟩)
              | (go_at_call 27; refine (NL.out _).mono ?_; rintro e w' ⟨rfl, rfl⟩)
              | (go_at_call 20; refine (SR.out _).mono ?_; rintro e w' ⟨rfl, rfl⟩))
            have hb5 := hb.trans (ht4.below hb.size (fun k hk => by unfold Own3 at hk; omega))
            clear ht4 hb
            go_loopw [74] (fun v wr => ∃ (k : Nat), k ≤ j ∧ v = .int .i64 k ∧ Tr wr q p b G4 H3 ∧ Below w.heap.size w wr) (fun v _ => j - (intOf v).toNat)
            case atStart => exact ⟨0, by omega, rfl, hs4, hb5⟩
            case round =>
              obtain ⟨k, hk, rfl, hs, hb⟩ := hrel
              by_cases hkj : k < j
              · obtain ⟨g, off, rfl, hg, hcell⟩ := HZ.out.at_ hb hkj
                have RT := Lib.hid (R1.out k hkj ▸ Root_yes (k : Int) (by omega) (by omega) hl1 wr hs)
                have eb : ((k : Int) == at_) = false := by simp; omega
                clear hs
                generalize zs.getD k 0 = z at *
                go_wp2_with (first
                  | (go_at_call 16; refine RT.out.mono ?_; rintro e w6 ⟨rfl, hs6, ht6⟩))
                go_roundw
                case rel => exact ⟨k + 1, by omega, by go_num, hs6, hb.trans (ht6.below hb.size (fun k hk => by unfold Own3 at hk; omega))⟩
                case measure => simp [intOf]; omega
              · go_wp2_with fail
                go_ret
                exact ⟨rfl, hb⟩
  · go_enter Tryd.func5, Tryd.ntmps5
    go_wp2_with (first
      | (go_at_call 25; refine NW.out.mono ?_; rintro e w1 ⟨q, p, b, rfl, hs1, hb1, hq, hp, hbb⟩)
      | (go_at_call 7; (with_reducible refine (AW.out _ hs1.tab).mono ?_); rintro e w2 ⟨rfl, hb2⟩; have ht2 := hs1.tab.turns (Turns.of_below hb2 (fun _ => False)) (fun h => h))
      | (go_at_call 7; (with_reducible refine (AW.out _ ht2).mono ?_); rintro e w3 ⟨rfl, hb3⟩))
    go_ret
    exact ⟨rfl, below_then (below_then hb1 hb2) hb3⟩
end Go.Proofs.YtdfeapjjgpdcoaaDoor
