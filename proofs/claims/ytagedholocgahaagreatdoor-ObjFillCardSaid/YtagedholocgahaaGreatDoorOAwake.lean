/- The laws' own calls of layer 6: begun, kind, plainly; and the closed part of every law: the answers that the document fixes are given. -/
import Derived.Test.YtagedholocgahaaGreatDoorOStr
import Derived.Test.YtagedholocgahaaGreatDoorOFill
import Derived.Test.YtagedholocgahaaGreatDoorErrIs
import Derived.Test.YtagedholocgahaaGreatDoorLaw
import Derived.WalkLawsBesides
namespace Go.Proofs.YtagedholocgahaaGreatDoor
open Go.ChangeShapes Go.WideShapes Go.ChangeAt Go.RowKit

/-- the laws' heap -/
def G2 : Geo := ⟨⟨200, 60, 40, 30⟩, 2⟩
theorem G2_ok : G2.ok := by unfold Geo.ok; decide +kernel
theorem G2_room {N c : Nat} (hc : c < 4) (hN : N < 30) : (N : Int) < G2.n.at_ c := by
  rcases lt4 hc with rfl | rfl | rfl | rfl
  · show (N : Int) < 200; omega
  · show (N : Int) < 60; omega
  · show (N : Int) < 40; omega
  · show (N : Int) < 30; omega

theorem begun_any (w : World) (ht : Tab w) : Calls Tryz.prog 26 #[] w fun e w' => ∃ q p b, e = .returned (.pointer (some ⟨q, 0, none⟩)) ∧ Os w' q p b 0 G2 Md.none (fun _ => 0) 0 (fun _ => False) ∧ Below w.heap.size w w' ∧ w.heap.size ≤ q ∧ w.heap.size ≤ p ∧ w.heap.size ≤ b := by
  have NW := Lib.hid (new_yes G2 G2_ok w ht)
  have E0 : Hid (G2.n.a = 200 ∧ G2.n.b = 60 ∧ G2.n.c = 40 ∧ G2.n.d = 30 ∧ G2.k = 2) := ⟨rfl, rfl, rfl, rfl, rfl⟩
  obtain ⟨ea, eb, ec, ed, ek⟩ := E0.out
  rw [ea, eb, ec, ed, ek] at NW
  clear ea eb ec ed ek E0 ht
  go_enter Tryz.func26, Tryz.ntmps26
  go_wp2_with (go_at_call 43; refine NW.out.mono ?_; rintro e w1 ⟨q, p, b, rfl, hs1, hb1, hq, hp, hbb⟩)
  go_ret
  exact ⟨q, p, b, rfl, ⟨_, _, _, _, hs1, ob_fresh G2_ok _, fun _ h => h⟩, hb1, hq, hp, hbb⟩

set_option maxRecDepth 100000 in
theorem kind_two (w : World) : Calls Tryz.prog 29 #[.iface 86 (.int .i64 2)] w fun e w' => e = .returned (.int .i64 2) ∧ Below w.heap.size w w' := by
  have o1 := fun w => Lib.hid (is_other 2 1 (by decide) w)
  go_enter Tryz.func29, Tryz.ntmps29
  go_wp2
  refine wp_loop_rounds 2 ?_
  rw [rounds_succ]
  go_wp2_with (go_at_call 48; (with_reducible refine (o1 _).out.mono ?_); rintro e w' ⟨rfl, rfl⟩)
  rw [rounds_succ]
  go_wp2_with (go_at_call 48; (with_reducible refine (is_same _ _).mono ?_); rintro e w' ⟨rfl, rfl⟩)
  go_ret
  exact ⟨rfl, (Below.refl _ _).alloc (Nat.le_refl _) _⟩
set_option maxRecDepth 100000 in
theorem kind_nine (w : World) : Calls Tryz.prog 29 #[.iface 86 (.int .i64 9)] w fun e w' => e = .returned (.int .i64 9) ∧ Below w.heap.size w w' := by
  have o1 := fun w => Lib.hid (is_other 9 1 (by decide) w)
  have o2 := fun w => Lib.hid (is_other 9 2 (by decide) w)
  have o3 := fun w => Lib.hid (is_other 9 3 (by decide) w)
  have o4 := fun w => Lib.hid (is_other 9 4 (by decide) w)
  go_enter Tryz.func29, Tryz.ntmps29
  go_wp2
  refine wp_loop_rounds 5 ?_
  rw [rounds_succ]
  go_wp2_with (go_at_call 48; (with_reducible refine (o1 _).out.mono ?_); rintro e w' ⟨rfl, rfl⟩)
  rw [rounds_succ]
  go_wp2_with (go_at_call 48; (with_reducible refine (o2 _).out.mono ?_); rintro e w' ⟨rfl, rfl⟩)
  rw [rounds_succ]
  go_wp2_with (go_at_call 48; (with_reducible refine (o3 _).out.mono ?_); rintro e w' ⟨rfl, rfl⟩)
  rw [rounds_succ]
  go_wp2_with (go_at_call 48; (with_reducible refine (o4 _).out.mono ?_); rintro e w' ⟨rfl, rfl⟩)
  rw [rounds_succ]
  go_wp2_with (go_at_call 48; (with_reducible refine (is_same _ _).mono ?_); rintro e w' ⟨rfl, rfl⟩)
  go_ret
  exact ⟨rfl, (Below.refl _ _).alloc (Nat.le_refl _) _⟩
set_option maxRecDepth 100000 in
theorem kind_thirteen (w : World) : Calls Tryz.prog 29 #[.iface 86 (.int .i64 13)] w fun e w' => e = .returned (.int .i64 13) ∧ Below w.heap.size w w' := by
  have o1 := fun w => Lib.hid (is_other 13 1 (by decide) w)
  have o2 := fun w => Lib.hid (is_other 13 2 (by decide) w)
  have o3 := fun w => Lib.hid (is_other 13 3 (by decide) w)
  have o4 := fun w => Lib.hid (is_other 13 4 (by decide) w)
  have o9 := fun w => Lib.hid (is_other 13 9 (by decide) w)
  go_enter Tryz.func29, Tryz.ntmps29
  go_wp2
  refine wp_loop_rounds 6 ?_
  rw [rounds_succ]
  go_wp2_with (go_at_call 48; (with_reducible refine (o1 _).out.mono ?_); rintro e w' ⟨rfl, rfl⟩)
  rw [rounds_succ]
  go_wp2_with (go_at_call 48; (with_reducible refine (o2 _).out.mono ?_); rintro e w' ⟨rfl, rfl⟩)
  rw [rounds_succ]
  go_wp2_with (go_at_call 48; (with_reducible refine (o3 _).out.mono ?_); rintro e w' ⟨rfl, rfl⟩)
  rw [rounds_succ]
  go_wp2_with (go_at_call 48; (with_reducible refine (o4 _).out.mono ?_); rintro e w' ⟨rfl, rfl⟩)
  rw [rounds_succ]
  go_wp2_with (go_at_call 48; (with_reducible refine (o9 _).out.mono ?_); rintro e w' ⟨rfl, rfl⟩)
  rw [rounds_succ]
  go_wp2_with (go_at_call 48; (with_reducible refine (is_same _ _).mono ?_); rintro e w' ⟨rfl, rfl⟩)
  go_ret
  exact ⟨rfl, (Below.refl _ _).alloc (Nat.le_refl _) _⟩
set_option maxRecDepth 100000 in
theorem kind_fourteen (w : World) : Calls Tryz.prog 29 #[.iface 86 (.int .i64 14)] w fun e w' => e = .returned (.int .i64 14) ∧ Below w.heap.size w w' := by
  have o1 := fun w => Lib.hid (is_other 14 1 (by decide) w)
  have o2 := fun w => Lib.hid (is_other 14 2 (by decide) w)
  have o3 := fun w => Lib.hid (is_other 14 3 (by decide) w)
  have o4 := fun w => Lib.hid (is_other 14 4 (by decide) w)
  have o9 := fun w => Lib.hid (is_other 14 9 (by decide) w)
  have o13 := fun w => Lib.hid (is_other 14 13 (by decide) w)
  go_enter Tryz.func29, Tryz.ntmps29
  go_wp2
  refine wp_loop_rounds 7 ?_
  rw [rounds_succ]
  go_wp2_with (go_at_call 48; (with_reducible refine (o1 _).out.mono ?_); rintro e w' ⟨rfl, rfl⟩)
  rw [rounds_succ]
  go_wp2_with (go_at_call 48; (with_reducible refine (o2 _).out.mono ?_); rintro e w' ⟨rfl, rfl⟩)
  rw [rounds_succ]
  go_wp2_with (go_at_call 48; (with_reducible refine (o3 _).out.mono ?_); rintro e w' ⟨rfl, rfl⟩)
  rw [rounds_succ]
  go_wp2_with (go_at_call 48; (with_reducible refine (o4 _).out.mono ?_); rintro e w' ⟨rfl, rfl⟩)
  rw [rounds_succ]
  go_wp2_with (go_at_call 48; (with_reducible refine (o9 _).out.mono ?_); rintro e w' ⟨rfl, rfl⟩)
  rw [rounds_succ]
  go_wp2_with (go_at_call 48; (with_reducible refine (o13 _).out.mono ?_); rintro e w' ⟨rfl, rfl⟩)
  rw [rounds_succ]
  go_wp2_with (go_at_call 48; (with_reducible refine (is_same _ _).mono ?_); rintro e w' ⟨rfl, rfl⟩)
  go_ret
  exact ⟨rfl, (Below.refl _ _).alloc (Nat.le_refl _) _⟩

/-- no word names a cell -/
def plainW (zs : List Int) (n : Nat) : Bool := (List.range n).all (fun i => WM.kd (zs.getD i 0) != 2)
theorem plainly_any (A : Option Addr) (n c : Nat) (zs : List Int) (w : World) (hn : n ≤ maxLen) (hz : ∀ j, j < n → ∃ g off, A = some ⟨g, off, none⟩ ∧ w.cell? ⟨g, off + j, none⟩ = some (.int .u64 (zs.getD j 0))) (hwf : ∀ i, 0 ≤ zs.getD i 0 ∧ zs.getD i 0 < 18446744073709551616) :
    Calls Tryz.prog 25 #[.slice A n c] w fun e w' => e = .returned (.bool (plainW zs n)) ∧ w = w' := by
  unfold maxLen at hn
  have HZ := Lib.hid hz
  have HW := Lib.hid hwf
  clear hz hwf
  go_enter Tryz.func25, Tryz.ntmps25
  go_wp2_with fail
  go_loopw [7] (fun v wr => ∃ j : Nat, j ≤ n ∧ v = .int .i64 j ∧ wr = w ∧ plainW zs j = true) (fun v _ => n - (intOf v).toNat)
  case atStart => exact ⟨0, by omega, rfl, rfl, rfl⟩
  case round =>
    obtain ⟨j, hj, rfl, rfl, hp⟩ := hrel
    by_cases hjn : j < n
    · obtain ⟨g, off, rfl, hcell⟩ := HZ.out j hjn
      obtain ⟨v0, v1⟩ := HW.out j
      have KK := Lib.hid (fun w => kind_any (zs.getD j 0) v0 v1 w)
      have hstep : plainW zs (j + 1) = (WM.kd (zs.getD j 0) != 2) := by
        unfold plainW at hp ⊢
        rw [List.range_succ, List.all_append, hp]
        simp
      by_cases hk : WM.kd (zs.getD j 0) = 2
      · have hkb : (WM.kd (zs.getD j 0) == 2) = true := by simpa using hk
        have hend : plainW zs n = false := by
          rw [Bool.eq_false_iff]
          intro h
          unfold plainW at h
          have := List.all_eq_true.1 h j (List.mem_range.2 hjn)
          rw [hk] at this
          simp at this
        have HE := Lib.hid hend
        clear hk hstep hend
        generalize WM.kd (zs.getD j 0) = kd at *
        generalize zs.getD j 0 = z at *
        go_wp2_with (go_at_call 61; refine (KK.out _).mono ?_; rintro e w' ⟨rfl, rfl⟩)
        go_ret
        exact ⟨by rw [HE.out]; rfl, rfl⟩
      · have hkb : (WM.kd (zs.getD j 0) == 2) = false := by simpa using hk
        have hs : plainW zs (j + 1) = true := by
          rw [hstep]
          simpa using hk
        have HS := Lib.hid hs
        clear hk hstep hs
        generalize WM.kd (zs.getD j 0) = kd at *
        generalize zs.getD j 0 = z at *
        go_wp2_with (go_at_call 61; refine (KK.out _).mono ?_; rintro e w' ⟨rfl, rfl⟩)
        go_roundw
        case rel => exact ⟨j + 1, by omega, by go_num, by first | trivial | rfl, HS.out⟩
        case measure => simp [intOf]; omega
    · obtain rfl : j = n := by omega
      go_wp2_with fail
      go_ret
      exact ⟨by rw [hp]; rfl, rfl⟩

theorem ok_w {x : Int} (x0 : 0 ≤ x) (x1 : x < 18446744073709551616) (h : WM.kd x ≠ 2) : (V.w x).ok := ⟨x0, x1, h⟩
theorem ok4 : (V.w 4).ok := ⟨by omega, by omega, by decide +kernel⟩
theorem reach_reg {M : Md} {r : Nat} {z : Nat} (hr : r < 8) (h : M.reg r = .t z) : Reach M z := fun _ c => by
  have := c.reg r hr
  rw [h] at this
  exact this
section
variable {w w' : World} {q p b : Nat} {B : Int} {G : Geo} {M : Md} {tg : Nat → Int} {N : Nat} {K : Nat → Prop} {z : Nat}
/-- a pair of two words that are at hand -/
theorem make_pair (o : Os w q p b B G M tg N K) (u v : V) (hu : u.ok ∧ u.Has (Reach M)) (hv : v.ok ∧ v.Has (Reach M)) (hB : B + G.k.toNat ≤ 1000000000) (hN : (N : Int) < G.n.at_ 0) :
    Calls Tryz.prog 27 #[.pointer (some ⟨q, 0, none⟩), .int .i64 1, .slice (some ⟨w.heap.size, 0, none⟩) 2 2] (w.alloc (.cells #[.int .u64 (u.wd M.cell), .int .u64 (v.wd M.cell)] 35)) fun e w' => ∃ x : Int, e = .returned (.tuple #[.int .u64 (8 * x + 1), .nilIface]) ∧
      Os w' q p b (B + G.k.toNat) G (M.obj N 1 2 x [u, v] 2) (tgs tg N 1) (N + 1) (plus (Reach M) N) ∧ Turns (Own3 q p b) w w' := by
  have hlt := o.lt
  have hl : Lies (w.alloc (.cells #[.int .u64 (u.wd M.cell), .int .u64 (v.wd M.cell)] 35)) w.heap.size 35 [.int .u64 (u.wd M.cell), .int .u64 (v.wd M.cell)] := Lies.made w _ _
  refine (make_of (o.alloc _) 1 2 2 [u, v] rfl (by decide) (by omega) hB hN (fun y hy => ?_) ?_).mono ?_
  · rcases List.mem_cons.1 hy with rfl | hy
    · exact hu
    · rcases List.mem_cons.1 hy with rfl | hy
      · exact hv
      · cases hy
  · intro j hj
    refine ⟨w.heap.size, 0, rfl, hl.lt, fun h => by unfold Own3 at h; omega, ?_⟩
    rw [hl.cell, Nat.zero_add]
    have hj2 : j < 2 := by simpa using hj
    rcases (show j = 0 ∨ j = 1 by omega) with rfl | rfl <;> rfl
  · rintro e w2 ⟨x, rfl, o2, ht2⟩
    exact ⟨x, rfl, o2, ((Turns.refl _ w).alloc _).trans ht2⟩
end

/-- abc -/
def abc : ByteArray := ⟨#[97, 98, 99]⟩
def mA (x : Int) : Md := Md.none.obj 0 1 2 x [.w 8, .w 4] 2
def mB (x : Int) : Md := (mA x).setReg 0 (.t 0)
def mC (x y : Int) : Md := (mB x).obj 1 2 2 y (strV abc 1) 2
def tA : Nat → Int := tgs (fun _ => 0) 0 1
def tC : Nat → Int := tgs tA 1 2
def kA : Nat → Prop := plus (Reach Md.none) 0
def kC (x : Int) : Nat → Prop := plus (Reach (mB x)) 1

set_option maxHeartbeats 2000000 in
set_option maxRecDepth 100000 in
theorem awake06_any (w : World) (ht : Tab w) : Calls Tryz.prog 24 #[] w fun e w' => e = .returned (.bool true) ∧ Below w.heap.size w w' := by
  have BG := Lib.hid (begun_any w ht)
  clear ht
  have FX : Hid (∀ w, Calls Tryz.prog 41 #[.int .i64 1] w fun e w' => e = .returned (.tuple #[.int .u64 8, .nilIface]) ∧ w = w') := fun w => by
    have := fix_any 1 w
    exact this
  have NL := Lib.hid (fun w => nil_any w)
  have MK : Hid (∀ q p b w1, Os w1 q p b 0 G2 Md.none (fun _ => 0) 0 (fun _ => False) → Calls Tryz.prog 27 #[.pointer (some ⟨q, 0, none⟩), .int .i64 1, .slice (some ⟨w1.heap.size, 0, none⟩) 2 2] (w1.alloc (.cells #[.int .u64 8, .int .u64 4] 35)) fun e w' => ∃ x : Int, e = .returned (.tuple #[.int .u64 (8 * x + 1), .nilIface]) ∧
      Os w' q p b 2 G2 (mA x) tA 1 kA ∧ Turns (Own3 q p b) w1 w') := fun q p b w1 h1 => make_pair h1 (.w 8) (.w 4) ⟨ok_w (by omega) (by omega) (by decide +kernel), trivial⟩ ⟨ok4, trivial⟩ (by decide) (by decide)
  have SR : Hid (∀ q p b x w1, Os w1 q p b 2 G2 (mA x) tA 1 kA → Calls Tryz.prog 30 #[.pointer (some ⟨q, 0, none⟩), .int .i64 0, .int .u64 (8 * x + 1)] w1 fun e w' => e = .returned .nilIface ∧ Os w' q p b 2 G2 (mB x) tA 1 kA ∧ Turns (Own3 q p b) w1 w') :=
    fun q p b x w1 h1 => h1.setRoot 0 (by omega) (v := .t 0) trivial (.inr rfl)
  have F1 : Hid (∀ q p b x w1, Os w1 q p b 2 G2 (mB x) tA 1 kA → Calls Tryz.prog 32 #[.pointer (some ⟨q, 0, none⟩), .int .u64 (8 * x + 1), .int .i64 1, .int .i64 0] w1 fun e w' => e = .returned (.tuple #[.int .u64 8, .nilIface]) ∧ Os w' q p b 2 G2 (mB x) tA 1 kA ∧ Turns (Own3 q p b) w1 w') :=
    fun q p b x w1 h1 => field_of h1 (z := 0) (j := 0) (.inr rfl) (show 0 < 2 by decide) (show ¬ ((1 : Int) = 2 ∧ (1 : Int) = 2) by decide)
  have F2 : Hid (∀ q p b x w1, Os w1 q p b 2 G2 (mB x) tA 1 kA → Calls Tryz.prog 32 #[.pointer (some ⟨q, 0, none⟩), .int .u64 (8 * x + 1), .int .i64 3, .int .i64 0] w1 fun e w' => e = .returned (.tuple #[.int .u64 0, .iface 86 (.int .i64 9)]) ∧ Os w' q p b 2 G2 (mB x) tA 1 kA ∧ Turns (Own3 q p b) w1 w') :=
    fun q p b x w1 h1 => field_no h1 (z := 0) (.inr rfl) 3 0 9 (show chk 1 1 3 ((2 : Nat) : Int) 0 = 9 by decide) (by decide)
  have F3 : Hid (∀ q p b x w1, Os w1 q p b 2 G2 (mB x) tA 1 kA → Calls Tryz.prog 32 #[.pointer (some ⟨q, 0, none⟩), .int .u64 (8 * x + 1), .int .i64 1, .int .i64 2] w1 fun e w' => e = .returned (.tuple #[.int .u64 0, .iface 86 (.int .i64 13)]) ∧ Os w' q p b 2 G2 (mB x) tA 1 kA ∧ Turns (Own3 q p b) w1 w') :=
    fun q p b x w1 h1 => field_no h1 (z := 0) (.inr rfl) 1 2 13 (show chk 1 1 1 ((2 : Nat) : Int) 2 = 13 by decide) (by decide)
  have ST : Hid (∀ q p b x w1, Os w1 q p b 2 G2 (mB x) tA 1 kA → Calls Tryz.prog 35 #[.pointer (some ⟨q, 0, none⟩), .string ⟨#[97, 98, 99]⟩] w1 fun e w' => ∃ y : Int, e = .returned (.tuple #[.int .u64 (8 * y + 1), .nilIface]) ∧ Os w' q p b 4 G2 (mC x y) tC 2 (kC x) ∧ Turns (Own3 q p b) w1 w') := fun q p b x w1 h1 => by
    refine (str_of h1 abc (by decide) (by decide) (fun c hc => G2_room hc (by omega))).mono ?_
    rintro e w2 ⟨m, y, hm, rfl, h2, ht2⟩
    obtain rfl : m = 1 := hm
    exact ⟨y, rfl, h2, ht2⟩
  have hk0 : ∀ x, kC x 0 := fun x => .inl (reach_reg (r := 0) (by omega) rfl)
  have TX : Hid (∀ q p b x y w1, Os w1 q p b 4 G2 (mC x y) tC 2 (kC x) → Calls Tryz.prog 36 #[.pointer (some ⟨q, 0, none⟩), .int .u64 (8 * y + 1)] w1 fun e w' => e = .returned (.tuple #[.string ⟨#[97, 98, 99]⟩, .nilIface]) ∧ Os w' q p b 4 G2 (mC x y) tC 2 (kC x) ∧ Turns (Own3 q p b) w1 w') :=
    fun q p b x y w1 h1 => text_str h1 (z := 1) (.inr rfl) abc (by decide) 1 (by decide) rfl rfl rfl rfl (fun k hk => by
      obtain rfl : k = 0 := by omega
      rfl)
  have LS : Hid (∀ q p b x y w1, Os w1 q p b 4 G2 (mC x y) tC 2 (kC x) → Calls Tryz.prog 60 #[.pointer (some ⟨q, 0, none⟩), .int .u64 (8 * x + 1), .int .i64 5] w1 fun e w' => ∃ (A : Option Addr) (c : Nat), e = .returned (.tuple #[.slice A 1 c, .nilIface]) ∧ Os w' q p b 4 G2 (mC x y) tC 2 (kC x) ∧ Turns (Own3 q p b) w1 w') :=
    fun q p b x y w1 h1 => list_one h1 (z := 0) (hk0 x) 8 rfl rfl rfl rfl rfl
  have LN : Hid (∀ q p b x y w1, Os w1 q p b 4 G2 (mC x y) tC 2 (kC x) → Calls Tryz.prog 34 #[.pointer (some ⟨q, 0, none⟩), .int .u64 (8 * y + 1)] w1 fun e w' => e = .returned (.int .i64 2) ∧ Os w' q p b 4 G2 (mC x y) tC 2 (kC x) ∧ Turns (Own3 q p b) w1 w') :=
    fun q p b x y w1 h1 => len_of h1 (z := 1) (.inr rfl)
  have TG : Hid (∀ q p b x y w1, Os w1 q p b 4 G2 (mC x y) tC 2 (kC x) → Calls Tryz.prog 33 #[.pointer (some ⟨q, 0, none⟩), .int .u64 (8 * x + 1)] w1 fun e w' => e = .returned (.int .i64 1) ∧ Os w' q p b 4 G2 (mC x y) tC 2 (kC x) ∧ Turns (Own3 q p b) w1 w') :=
    fun q p b x y w1 h1 => tag_of h1 (z := 0) (hk0 x)
  have T9 : Hid (∀ w, Calls Tryz.prog 48 #[.iface 86 (.int .i64 9), .iface 86 (.int .i64 9)] w fun e w' => e = .returned (.bool true) ∧ w = w') := fun w => is_same 9 w
  have T13 : Hid (∀ w, Calls Tryz.prog 48 #[.iface 86 (.int .i64 13), .iface 86 (.int .i64 13)] w fun e w' => e = .returned (.bool true) ∧ w = w') := fun w => is_same 13 w
  clear hk0
  go_enter Tryz.func24, Tryz.ntmps24
  go_wp2_with (first
    | (go_at_call 26; refine BG.out.mono ?_; rintro e w1 ⟨q, p, b, rfl, o1, hb1, hq, hp, hbb⟩)
    | (go_at_call 41; refine (FX.out _).mono ?_; rintro e w' ⟨rfl, rfl⟩)
    | (go_at_call 39; refine (NL.out _).mono ?_; rintro e w' ⟨rfl, rfl⟩)
    | (go_at_call 27; refine (MK.out _ _ _ _ o1).mono ?_; rintro e w2 ⟨x, rfl, o2, ht2⟩)
    | (go_at_call 30; refine (SR.out _ _ _ _ _ o2).mono ?_; rintro e w3 ⟨rfl, o3, ht3⟩)
    | (go_at_call 32; (with_reducible refine (F1.out _ _ _ _ _ o3).mono ?_); rintro e w4 ⟨rfl, o4, ht4⟩)
    | (go_at_call 32; (with_reducible refine (F2.out _ _ _ _ _ o4).mono ?_); rintro e w5 ⟨rfl, o5, ht5⟩)
    | (go_at_call 32; (with_reducible refine (F3.out _ _ _ _ _ o5).mono ?_); rintro e w6 ⟨rfl, o6, ht6⟩)
    | (go_at_call 35; refine (ST.out _ _ _ _ _ o6).mono ?_; rintro e w7 ⟨y, rfl, o7, ht7⟩)
    | (go_at_call 36; refine (TX.out _ _ _ _ _ _ o7).mono ?_; rintro e w8 ⟨rfl, o8, ht8⟩)
    | (go_at_call 60; refine (LS.out _ _ _ _ _ _ o8).mono ?_; rintro e w9 ⟨A9, c9, rfl, o9, ht9⟩)
    | (go_at_call 48; (with_reducible refine (T9.out _).mono ?_); rintro e w' ⟨rfl, rfl⟩)
    | (go_at_call 48; (with_reducible refine (T13.out _).mono ?_); rintro e w' ⟨rfl, rfl⟩)
    | (go_at_call 34; refine (LN.out _ _ _ _ _ _ o9).mono ?_; rintro e w10 ⟨rfl, o10, ht10⟩)
    | (go_at_call 33; refine (TG.out _ _ _ _ _ _ o10).mono ?_; rintro e w11 ⟨rfl, o11, ht11⟩))
  go_ret
  have htt := ((((((((ht2.trans ht3).trans ht4).trans ht5).trans ht6).trans ht7).trans ht8).trans ht9).trans ht10).trans ht11
  exact ⟨rfl, hb1.trans (htt.below hb1.size (fun k hk => by unfold Own3 at hk; omega))⟩
end Go.Proofs.YtagedholocgahaaGreatDoor
