/- ObjFields, walked. -/
import Derived.Test.YtagedholocgahaaGreatDoorOLawFill
namespace Go.Proofs.YtagedholocgahaaGreatDoor
open Go.ChangeShapes Go.WideShapes Go.ChangeAt Go.RowKit

/-- the object in the register -/
def mF (zs : List Int) (n : Nat) (x : Int) : Md := (Md.none.obj 0 1 n x (zs.map V.w) n).setReg 0 (.t 0)
theorem map_w_at (zs : List Int) (j : Nat) : (zs.map V.w).getD j (.w 0) = .w (zs.getD j 0) := by
  rw [List.getD_eq_getElem?_getD, List.getD_eq_getElem?_getD, List.getElem?_map]
  cases zs[j]? <;> rfl
theorem mF_fld (zs : List Int) (n : Nat) (x : Int) (j : Nat) (hj : j < n) : (mF zs n x).fld 0 j = .w (zs.getD j 0) := by
  show (if 0 = 0 then (if j < n then (zs.map V.w).getD j (.w 0) else V.w (blank 1)) else V.w 12) = _
  rw [if_pos rfl, if_pos hj, map_w_at]
theorem map_wd (zs : List Int) (cell : Nat → Int) : (zs.map V.w).map (V.wd cell) = zs := by
  rw [List.map_map]
  exact List.map_id _

/-- what is known of the object behind SetField -/
structure Fd (M : Md) (n : Nat) (x : Int) (zs : List Int) (at_ v : Int) : Prop where
  form : M.form 0 = 1
  len : M.len 0 = n
  cell : M.cell 0 = x
  reg : M.reg 0 = .t 0
  fld : ∀ j : Nat, j < n → M.fld 0 j = .w (if (j : Int) = at_ then v else zs.getD j 0)

/-- SetField, whatever the place is -/
theorem set_at {w : World} {q p b : Nat} {B : Int} {tag : Int} {K : Nat → Prop} (n : Nat) (x : Int) (zs : List Int) (at_ v : Int) (_ : 1 ≤ tag ∧ tag ≤ 12) (hv : (V.w v).ok) (o : Os w q p b B G2 (mF zs n x) (tgs (fun _ => 0) 0 tag) 1 K) (hK : K 0) :
    ∃ (M : Md) (k : Int), Fd M n x zs at_ v ∧ ((k = 0 ∧ 0 ≤ at_ ∧ at_ < n) ∨ (k = 13 ∧ at_ < 0) ∨ (k = 13 ∧ 0 ≤ at_ ∧ n ≤ at_)) ∧
      Calls Tryz.prog 31 #[.pointer (some ⟨q, 0, none⟩), .int .u64 (8 * x + 1), .int .i64 tag, .int .i64 at_, .int .u64 v] w fun e w' => e = .returned (er k) ∧ Os w' q p b B G2 M (tgs (fun _ => 0) 0 tag) 1 K ∧ Turns (Own3 q p b) w w' := by
  have hno : ¬ ((1 : Int) = 2 ∧ tag = 2) := by omega
  by_cases h0 : 0 ≤ at_
  · by_cases h1 : at_ < n
    · obtain ⟨a, rfl⟩ := Int.eq_ofNat_of_zero_le h0
      refine ⟨(mF zs n x).setFld 0 a (.w v), 0, ⟨rfl, rfl, rfl, rfl, fun j hj => ?_⟩, .inl ⟨rfl, h0, h1⟩, setField_of o (z := 0) (j := a) hK (show a < n by omega) rfl hv trivial⟩
      show (if 0 = 0 ∧ j = a then V.w v else (mF zs n x).fld 0 j) = _
      by_cases e : j = a
      · rw [if_pos ⟨rfl, e⟩, if_pos (by omega)]
      · rw [if_neg (fun h => e h.2), if_neg (by omega), mF_fld _ _ _ _ hj]
    · refine ⟨mF zs n x, 13, ⟨rfl, rfl, rfl, rfl, fun j hj => ?_⟩, .inr (.inr ⟨rfl, h0, by omega⟩), ?_⟩
      · rw [if_neg (by omega), mF_fld _ _ _ _ hj]
      · have := setField_no o (z := 0) hK tag at_ 13 v (by
          show chk 1 tag tag (n : Int) at_ = 13
          rw [chk, if_pos rfl, if_neg hno, if_neg (by omega), if_pos (by omega)]) (by decide)
        rw [er_yes (by decide)]
        exact this
  · refine ⟨mF zs n x, 13, ⟨rfl, rfl, rfl, rfl, fun j hj => ?_⟩, .inr (.inl ⟨rfl, by omega⟩), ?_⟩
    · rw [if_neg (by omega), mF_fld _ _ _ _ hj]
    · have := setField_no o (z := 0) hK tag at_ 13 v (by
        show chk 1 tag tag (n : Int) at_ = 13
        rw [chk, if_pos rfl, if_neg hno, if_pos (by omega)]) (by decide)
      rw [er_yes (by decide)]
      exact this

set_option maxHeartbeats 2000000 in
set_option maxRecDepth 100000 in
theorem objFields_walk (tag : Int) (A : Option Addr) (n c : Nat) (zs : List Int) (at_ v steps : Int) (w : World) (ht : Tab w) (hn : n ≤ maxLen) (hz : Came w .u64 A n zs) (hwf : ∀ i, 0 ≤ zs.getD i 0 ∧ zs.getD i 0 < 18446744073709551616)
    (v0 : 0 ≤ v) (v1 : v < 18446744073709551616) (s0 : 0 ≤ steps) (s1 : steps ≤ 255) :
    Calls Tryz.prog 6 #[.int .i64 tag, .slice A n c, .int .i64 at_, .int .u64 v, .int .u8 steps] w fun e w' => e = .returned (.bool true) ∧ Below w.heap.size w w' := by
  have hn' := hn
  unfold maxLen at hn
  have AW := Lib.hid (awake06_any w ht)
  have T1 := Lib.hid (fun w1 (h : Below w.heap.size w w1) => ht.turns (Turns.of_below h (fun _ => False)) (fun h => h))
  have AW2 := Lib.hid (fun w1 (h : Below w.heap.size w w1) => awake06_any w1 (T1.out w1 h))
  have BG := Lib.hid (fun w1 (h : Below w.heap.size w w1) => begun_any w1 (T1.out w1 h))
  have HZ := Lib.hid hz
  have ZL := Lib.hid hz.1
  have PZ := Lib.hid (fun w1 (h : Below w.heap.size w w1) => plainly_any A n c zs w1 hn' (fun j hj => by
    obtain ⟨g, off, e, -, hc⟩ := hz.at_ h hj
    exact ⟨g, off, e, hc⟩) hwf)
  clear ht hz
  by_cases hl : n ≤ 200
  · by_cases hp : plainW zs n = true
    · rw [hp] at PZ
      by_cases hk : WM.kd v = 2
      · have PL := Lib.hid (fun w => plainly_one v v0 v1 false (by rw [hk]; rfl) w)
        clear hp hk hwf hn'
        go_enter Tryz.func6, Tryz.ntmps6
        go_wp2_with (first
          | (go_at_call 24; (with_reducible refine AW.out.mono ?_); rintro e w1 ⟨rfl, hb1⟩)
          | (go_at_call 25; (with_reducible refine (PZ.out _ hb1).mono ?_); rintro e w' ⟨rfl, rfl⟩)
          | (go_at_call 25; refine (PL.out _).mono ?_; rintro e w2 ⟨rfl, rfl⟩; have hb2 := hb1.alloc hb1.size (.cells #[.int .u64 v] 35))
          | (go_at_call 24; refine (AW2.out _ hb2).mono ?_; rintro e w3 ⟨rfl, hb3⟩))
        go_ret
        exact ⟨rfl, hb2.trans (hb3.mono hb2.size)⟩
      · have PL := Lib.hid (fun w => plainly_one v v0 v1 true (by simpa using hk) w)
        have K13 := Lib.hid (fun w => kind_thirteen w)
        have K9 := Lib.hid (fun w => kind_nine w)
        have K2 := Lib.hid (fun w => kind_two w)
        have MS := Lib.hid (fun w => makes_any tag n w)
        by_cases hm : madeT tag = true ∧ n ≤ 120
        · obtain ⟨hm, h120⟩ := hm
          rw [hm, decide_eq_true (show 0 ≤ (n : Int) ∧ (n : Int) ≤ 120 by omega)] at MS
          have htag : 1 ≤ tag ∧ tag ≤ 12 := by
            have := of_decide_eq_true hm
            omega
          have hzw : ∀ y ∈ zs.map V.w, y.ok ∧ y.Has (Reach Md.none) := fun y hy => by
            obtain ⟨z, hz, rfl⟩ := List.mem_map.1 hy
            obtain ⟨j, hj, rfl⟩ := List.getElem_of_mem hz
            have hjn : j < n := by rw [← ZL.out]; exact hj
            have e : zs.getD j 0 = zs[j] := by simp [hj]
            have hb := hwf j
            rw [e] at hb
            have hpj : (WM.kd (zs.getD j 0) != 2) = true := by
              unfold plainW at hp
              exact List.all_eq_true.1 hp j (List.mem_range.2 hjn)
            rw [e] at hpj
            exact ⟨ok_w hb.1 hb.2 (by simpa using hpj), trivial⟩
          have MK : Hid (∀ q p b w1 A' c', Os w1 q p b 0 G2 Md.none (fun _ => 0) 0 (fun _ => False) → Row w1 q p b A' zs → Calls Tryz.prog 27 #[.pointer (some ⟨q, 0, none⟩), .int .i64 tag, .slice A' n c'] w1 fun e w' => ∃ x : Int, e = .returned (.tuple #[.int .u64 (8 * x + 1), .nilIface]) ∧
              Os w' q p b (0 + G2.k.toNat) G2 (Md.none.obj 0 1 n x (zs.map V.w) n) (tgs (fun _ => 0) 0 tag) (0 + 1) (plus (Reach Md.none) 0) ∧ Turns (Own3 q p b) w1 w') := fun q p b w1 A' c' h1 hr =>
            make_of h1 tag n c' (zs.map V.w) (by rw [List.length_map]; exact ZL.out) hm h120 (by decide) (G2_room (cln_lt _) (by omega)) hzw (by rw [map_wd]; exact hr)
          have SR : Hid (∀ q p b x w1, Os w1 q p b (0 + G2.k.toNat) G2 (Md.none.obj 0 1 n x (zs.map V.w) n) (tgs (fun _ => 0) 0 tag) (0 + 1) (plus (Reach Md.none) 0) → Calls Tryz.prog 30 #[.pointer (some ⟨q, 0, none⟩), .int .i64 0, .int .u64 (8 * x + 1)] w1 fun e w' =>
              e = .returned .nilIface ∧ Os w' q p b 2 G2 (mF zs n x) (tgs (fun _ => 0) 0 tag) 1 (plus (Reach Md.none) 0) ∧ Turns (Own3 q p b) w1 w') := fun q p b x w1 h1 => h1.setRoot 0 (by omega) (v := .t 0) trivial (.inr rfl)
          have IN : Hid (∀ q p b x w1, Os w1 q p b 2 G2 (mF zs n x) (tgs (fun _ => 0) 0 tag) 1 (plus (Reach Md.none) 0) → Calls Tryz.prog 16 #[.pointer (some ⟨q, 0, none⟩), .int .i64 steps] w1 fun e w' =>
              e = .returned (.tuple #[]) ∧ Os w' q p b (2 + steps.toNat) G2 (mF zs n x) (tgs (fun _ => 0) 0 tag) 1 (Reach (mF zs n x)) ∧ Turns (Own3 q p b) w1 w') := fun q p b x w1 h1 => h1.incs steps (by omega) (by omega)
          have SF : Hid (∀ q p b x w1, Os w1 q p b (2 + steps.toNat) G2 (mF zs n x) (tgs (fun _ => 0) 0 tag) 1 (Reach (mF zs n x)) → ∃ (M : Md) (k : Int), Fd M n x zs at_ v ∧ ((k = 0 ∧ 0 ≤ at_ ∧ at_ < n) ∨ (k = 13 ∧ at_ < 0) ∨ (k = 13 ∧ 0 ≤ at_ ∧ n ≤ at_)) ∧
              Calls Tryz.prog 31 #[.pointer (some ⟨q, 0, none⟩), .int .u64 (8 * x + 1), .int .i64 tag, .int .i64 at_, .int .u64 v] w1 fun e w' => e = .returned (er k) ∧ Os w' q p b (2 + steps.toNat) G2 M (tgs (fun _ => 0) 0 tag) 1 (Reach (mF zs n x)) ∧ Turns (Own3 q p b) w1 w') :=
            fun q p b x w1 h1 => set_at n x zs at_ v htag (ok_w v0 v1 hk) h1 (reach_reg (r := 0) (by omega) rfl)
          have I2 : Hid (∀ q p b x M w1, Fd M n x zs at_ v → Os w1 q p b (2 + steps.toNat) G2 M (tgs (fun _ => 0) 0 tag) 1 (Reach (mF zs n x)) → Calls Tryz.prog 16 #[.pointer (some ⟨q, 0, none⟩), .int .i64 steps] w1 fun e w' =>
              e = .returned (.tuple #[]) ∧ Os w' q p b (2 + steps.toNat + steps.toNat) G2 M (tgs (fun _ => 0) 0 tag) 1 (Reach M) ∧ Turns (Own3 q p b) w1 w') := fun q p b x M w1 _ h1 => h1.incs steps (by omega) (by omega)
          have hno : ¬ ((1 : Int) = 2 ∧ tag = 2) := by omega
          have FF : Hid (∀ q p b x M w1 (j : Nat), j < n → Fd M n x zs at_ v → Os w1 q p b (2 + steps.toNat + steps.toNat) G2 M (tgs (fun _ => 0) 0 tag) 1 (Reach M) → Calls Tryz.prog 32 #[.pointer (some ⟨q, 0, none⟩), .int .u64 (8 * x + 1), .int .i64 tag, .int .i64 (j : Int)] w1 fun e w' =>
              e = .returned (.tuple #[.int .u64 (if (j : Int) = at_ then v else zs.getD j 0), .nilIface]) ∧ Os w' q p b (2 + steps.toNat + steps.toNat) G2 M (tgs (fun _ => 0) 0 tag) 1 (Reach M) ∧ Turns (Own3 q p b) w1 w') := fun q p b x M w1 j hj hM h1 => by
            have := field_of h1 (z := 0) (j := j) (reach_reg (r := 0) (by omega) hM.reg) (by rw [hM.len]; exact hj) (by rw [hM.form]; exact hno)
            rw [hM.fld j hj, hM.cell] at this
            exact this
          have FE : Hid (∀ q p b x M w1, Fd M n x zs at_ v → Os w1 q p b (2 + steps.toNat + steps.toNat) G2 M (tgs (fun _ => 0) 0 tag) 1 (Reach M) → Calls Tryz.prog 32 #[.pointer (some ⟨q, 0, none⟩), .int .u64 (8 * x + 1), .int .i64 tag, .int .i64 (n : Int)] w1 fun e w' =>
              e = .returned (.tuple #[.int .u64 0, .iface 86 (.int .i64 13)]) ∧ Os w' q p b (2 + steps.toNat + steps.toNat) G2 M (tgs (fun _ => 0) 0 tag) 1 (Reach M) ∧ Turns (Own3 q p b) w1 w') := fun q p b x M w1 hM h1 => by
            have := field_no h1 (z := 0) (reach_reg (r := 0) (by omega) hM.reg) tag n 13 (by
              rw [hM.form, hM.len]
              show chk 1 tag tag (n : Int) n = 13
              rw [chk, if_pos rfl, if_neg hno, if_neg (by omega), if_pos (by omega)]) (by decide)
            rw [hM.cell] at this
            exact this
          have FT : Hid (∀ q p b x M w1, Fd M n x zs at_ v → Os w1 q p b (2 + steps.toNat + steps.toNat) G2 M (tgs (fun _ => 0) 0 tag) 1 (Reach M) → Calls Tryz.prog 32 #[.pointer (some ⟨q, 0, none⟩), .int .u64 (8 * x + 1), .int .i64 (tag + 1), .int .i64 0] w1 fun e w' =>
              e = .returned (.tuple #[.int .u64 0, .iface 86 (.int .i64 9)]) ∧ Os w' q p b (2 + steps.toNat + steps.toNat) G2 M (tgs (fun _ => 0) 0 tag) 1 (Reach M) ∧ Turns (Own3 q p b) w1 w') := fun q p b x M w1 hM h1 => by
            have := field_no h1 (z := 0) (reach_reg (r := 0) (by omega) hM.reg) (tag + 1) 0 9 (by
              rw [hM.form, hM.len]
              show chk 1 tag (tag + 1) (n : Int) 0 = 9
              rw [chk, if_neg (by omega)]) (by decide)
            rw [hM.cell] at this
            exact this
          have TG : Hid (∀ q p b x M w1, Fd M n x zs at_ v → Os w1 q p b (2 + steps.toNat + steps.toNat) G2 M (tgs (fun _ => 0) 0 tag) 1 (Reach M) → Calls Tryz.prog 33 #[.pointer (some ⟨q, 0, none⟩), .int .u64 (8 * x + 1)] w1 fun e w' =>
              e = .returned (.int .i64 tag) ∧ Os w' q p b (2 + steps.toNat + steps.toNat) G2 M (tgs (fun _ => 0) 0 tag) 1 (Reach M) ∧ Turns (Own3 q p b) w1 w') := fun q p b x M w1 hM h1 => by
            have := tag_of h1 (z := 0) (reach_reg (r := 0) (by omega) hM.reg)
            rw [hM.cell] at this
            exact this
          have LN : Hid (∀ q p b x M w1, Fd M n x zs at_ v → Os w1 q p b (2 + steps.toNat + steps.toNat) G2 M (tgs (fun _ => 0) 0 tag) 1 (Reach M) → Calls Tryz.prog 34 #[.pointer (some ⟨q, 0, none⟩), .int .u64 (8 * x + 1)] w1 fun e w' =>
              e = .returned (.int .i64 (n : Int)) ∧ Os w' q p b (2 + steps.toNat + steps.toNat) G2 M (tgs (fun _ => 0) 0 tag) 1 (Reach M) ∧ Turns (Own3 q p b) w1 w') := fun q p b x M w1 hM h1 => by
            have := len_of h1 (z := 0) (reach_reg (r := 0) (by omega) hM.reg)
            rw [hM.cell, hM.len] at this
            exact this
          have SFk : ∀ kv : Value, ((kv = .nilIface ∧ 0 ≤ at_ ∧ at_ < n) ∨ (kv = .iface 86 (.int .i64 13) ∧ (at_ < 0 ∨ (n : Int) ≤ at_))) → Hid (∀ q p b x w1, Os w1 q p b (2 + steps.toNat) G2 (mF zs n x) (tgs (fun _ => 0) 0 tag) 1 (Reach (mF zs n x)) → ∃ (M : Md), Fd M n x zs at_ v ∧
              Calls Tryz.prog 31 #[.pointer (some ⟨q, 0, none⟩), .int .u64 (8 * x + 1), .int .i64 tag, .int .i64 at_, .int .u64 v] w1 fun e w' => e = .returned kv ∧ Os w' q p b (2 + steps.toNat) G2 M (tgs (fun _ => 0) 0 tag) 1 (Reach (mF zs n x)) ∧ Turns (Own3 q p b) w1 w') := fun kv hkv q p b x w1 h1 => by
            obtain ⟨M, k, hM, hc, hcall⟩ := SF.out q p b x w1 h1
            refine ⟨M, hM, ?_⟩
            rcases hkv with ⟨rfl, h0, h1⟩ | ⟨rfl, h0⟩
            · obtain rfl : k = 0 := by omega
              exact hcall
            · obtain rfl : k = 13 := by omega
              exact hcall
          have ht1 := htag.1
          have ht12 := htag.2
          have htag1 : tag + 1 ≤ 100 := by omega
          clear hm hp hk hwf hn' hzw hno SF htag
          obtain ⟨kv, hkv, hat⟩ : ∃ kv : Value, ((kv = .nilIface ∧ 0 ≤ at_ ∧ at_ < n) ∨ (kv = .iface 86 (.int .i64 13) ∧ (at_ < 0 ∨ (n : Int) ≤ at_))) ∧ ((kv = .nilIface ∧ 0 ≤ at_ ∧ at_ < n) ∨ (kv = .iface 86 (.int .i64 13) ∧ at_ < 0) ∨ (kv = .iface 86 (.int .i64 13) ∧ 0 ≤ at_ ∧ (n : Int) ≤ at_)) := by
            by_cases h0 : 0 ≤ at_
            · by_cases h1 : at_ < n
              · exact ⟨_, .inl ⟨rfl, h0, h1⟩, .inl ⟨rfl, h0, h1⟩⟩
              · exact ⟨_, .inr ⟨rfl, .inr (by omega)⟩, .inr (.inr ⟨rfl, h0, by omega⟩)⟩
            · exact ⟨_, .inr ⟨rfl, .inl (by omega)⟩, .inr (.inl ⟨rfl, by omega⟩)⟩
          have SF := SFk kv hkv
          clear SFk hkv
          rcases hat with ⟨rfl, a0, a1⟩ | ⟨rfl, a0⟩ | ⟨rfl, a0, a1⟩
          all_goals
            go_enter Tryz.func6, Tryz.ntmps6
            go_wp2_with (first
              | (go_at_call 24; (with_reducible refine AW.out.mono ?_); rintro e w1 ⟨rfl, hb1⟩)
              | (go_at_call 25; (with_reducible refine (PZ.out _ hb1).mono ?_); rintro e w' ⟨rfl, rfl⟩)
              | (go_at_call 25; refine (PL.out _).mono ?_; rintro e w2 ⟨rfl, rfl⟩; have hb2 := hb1.alloc hb1.size (.cells #[.int .u64 v] 35))
              | (go_at_call 26; refine (BG.out _ hb2).mono ?_; rintro e w3 ⟨q, p, b, rfl, o3, hb3, hq, hp, hbb⟩; have hb23 := hb2.trans (hb3.mono hb2.size))
              | (refine wpList_append_came (lx := zs) (v := .slice (some ⟨w3.heap.size, 0, none⟩) 0 0) rfl _ _ 59 rfl Tryz.underlying59 rfl rfl (OwnW.zero (B := w3.heap.size) w3 (Nat.le_refl _)) ZL.out (fun j hj => by
                    obtain ⟨g, off, e, -, hc⟩ := HZ.out.at_ (hb23.alloc hb23.size (.cells #[] 35)) hj
                    exact ⟨g, off, e, hc⟩) (by simp; omega) (by simp) ?_
                 intro v4 w4 hown4 hg4 hat4
                 rw [List.nil_append] at hown4
                 have hrd := hown4.read
                 rw [ZL.out] at hrd
                 obtain ⟨A4, c4, rfl, hr4⟩ := hrd
                 have ht4 : Turns (fun _ => False) w3 w4 := ((Turns.refl (fun _ => False) w3).alloc _).grown hg4 (fun i hi hlt => by simp [Value.ownBlock] at hi; omega)
                 have o4 := o3.quiet ht4
                 have hlt3 := o3.lt
                 have row4 : Row w4 q p b A4 zs := fun j hj => by
                   obtain ⟨g, e, hg, hlt, hc⟩ := hr4 j (by rw [← ZL.out]; exact hj)
                   exact ⟨g, 0, e, hlt, (fun h => by unfold Own3 at h; omega), by rw [Nat.zero_add]; exact hc⟩)
              | (go_at_call 27; refine (MK.out _ _ _ _ _ _ o4 row4).mono ?_; rintro e w5 ⟨x, rfl, o5, ht5⟩)
              | (go_at_call 28; refine (MS.out _).mono ?_; rintro e w' ⟨rfl, rfl⟩)
              | (go_at_call 30; refine (SR.out _ _ _ _ _ o5).mono ?_; rintro e w6 ⟨rfl, o6, ht6⟩)
              | (go_at_call 16; (with_reducible refine (IN.out _ _ _ _ _ o6).mono ?_); rintro e w7 ⟨rfl, o7, ht7⟩)
              | (go_at_call 31; obtain ⟨M2, hM, SFc⟩ := SF.out _ _ _ _ _ o7; refine SFc.mono ?_; rintro e w8 ⟨rfl, o8, ht8⟩)
              | (go_at_call 16; (with_reducible refine (I2.out _ _ _ _ _ _ hM o8).mono ?_); rintro e w9 ⟨rfl, o9, ht9⟩)
              | (go_at_call 29; (with_reducible refine (K13.out _).mono ?_); rintro e w8k ⟨rfl, hb8⟩; have o8' := o8.quiet (Turns.of_below hb8 (fun _ => False)); have ht8' := ht8.trans (Turns.of_below hb8 (Own3 q p b)); clear ht8 o8; have ht8 := ht8'; have o8 := o8'))
            have hb4 := hb23.trans (ht4.below hb23.size (fun i h => h.elim))
            have h10 := hb2.size
            have hb9 := law_end hb4 ((((ht5.trans ht6).trans ht7).trans ht8).trans ht9) (by omega) (by omega) (by omega)
            have F1 := Lib.hid (fun w1 j hj h1 => FF.out q p b x M2 w1 j hj hM h1)
            have F2 := Lib.hid (fun w1 h1 => FE.out q p b x M2 w1 hM h1)
            have F3 := Lib.hid (fun w1 h1 => FT.out q p b x M2 w1 hM h1)
            have F4 := Lib.hid (fun w1 h1 => TG.out q p b x M2 w1 hM h1)
            have F5 := Lib.hid (fun w1 h1 => LN.out q p b x M2 w1 hM h1)
            clear FF FE FT TG LN SF I2 IN SR MK MS PL PZ BG AW AW2 T1 hM SFc o3 o4 o5 o6 o7 o8 ht4 ht5 ht6 ht7 ht8 ht9 hb3 hb23 hb4 row4 hown4 hr4 hg4 hat4 hlt3
            generalize 8 * x + 1 = cx at *
            go_loopw [107] (fun v wr => ∃ j : Nat, j ≤ n ∧ v = .int .i64 j ∧ Os wr q p b (2 + steps.toNat + steps.toNat) G2 M2 (tgs (fun _ => 0) 0 tag) 1 (Reach M2) ∧ Below w.heap.size w wr) (fun v _ => n - (intOf v).toNat)
            case atStart => exact ⟨0, by omega, rfl, o9, hb9⟩
            case round =>
              obtain ⟨j, hj, rfl, o, hb⟩ := hrel
              by_cases hjn : j < n
              · obtain ⟨g, off, rfl, hg, hcell⟩ := HZ.out.at_ hb hjn
                have FJ := Lib.hid (F1.out wr j hjn o)
                by_cases e : (j : Int) = at_
                · rw [if_pos e] at FJ
                  have eb : ((j : Int) == at_) = true := by simpa using e
                  clear e
                  generalize zs.getD j 0 = z at *
                  go_wp2_with (go_at_call 32; refine FJ.out.mono ?_; rintro e w10 ⟨rfl, o10, ht10⟩)
                  go_roundw
                  case rel => exact ⟨j + 1, by omega, by go_num, o10, law_end hb ht10 (by omega) (by omega) (by omega)⟩
                  case measure => simp [intOf]; omega
                · rw [if_neg e] at FJ
                  have eb : ((j : Int) == at_) = false := by simpa using e
                  clear e
                  generalize zs.getD j 0 = z at *
                  go_wp2_with (go_at_call 32; refine FJ.out.mono ?_; rintro e w10 ⟨rfl, o10, ht10⟩)
                  go_roundw
                  case rel => exact ⟨j + 1, by omega, by go_num, o10, law_end hb ht10 (by omega) (by omega) (by omega)⟩
                  case measure => simp [intOf]; omega
              · go_wp2_with (first
                  | (go_at_call 32; (with_reducible refine (F2.out _ o).mono ?_); rintro e w10 ⟨rfl, o10, ht10⟩)
                  | (go_at_call 32; (with_reducible refine (F3.out _ o10).mono ?_); rintro e w11 ⟨rfl, o11, ht11⟩)
                  | (go_at_call 33; refine (F4.out _ o11).mono ?_; rintro e w12 ⟨rfl, o12, ht12x⟩)
                  | (go_at_call 34; refine (F5.out _ o12).mono ?_; rintro e w13 ⟨rfl, o13, ht13⟩; have hb13 := law_end hb (((ht10.trans ht11).trans ht12x).trans ht13) (by omega) (by omega) (by omega))
                  | (go_at_call 29; (with_reducible refine (K13.out _).mono ?_); rintro e w14 ⟨rfl, hb14⟩; have hb134 := hb13.trans (hb14.mono hb13.size))
                  | (go_at_call 29; (with_reducible refine (K9.out _).mono ?_); rintro e w15 ⟨rfl, hb15⟩))
                go_ret
                exact ⟨rfl, hb134.trans (hb15.mono hb134.size)⟩
        · have MN : Hid (∀ q A' c' w1, Calls Tryz.prog 27 #[.pointer (some ⟨q, 0, none⟩), .int .i64 tag, .slice A' n c'] w1 fun e w' => e = .returned (.tuple #[.int .u64 0, .iface 86 (.int .i64 2)]) ∧ w1 = w') := fun q A' c' w1 => make_no q tag n c' hn' hm w1
          have hmf : (madeT tag && decide (0 ≤ (n : Int) ∧ (n : Int) ≤ 120)) = false := by
            cases h : madeT tag with
            | false => rfl
            | true =>
              have : ¬ n ≤ 120 := fun h2 => hm ⟨h, h2⟩
              rw [Bool.true_and]
              exact decide_eq_false (by omega)
          rw [hmf] at MS
          clear hm hp hk hwf hn' hmf
          go_enter Tryz.func6, Tryz.ntmps6
          go_wp2_with (first
            | (go_at_call 24; (with_reducible refine AW.out.mono ?_); rintro e w1 ⟨rfl, hb1⟩)
            | (go_at_call 25; (with_reducible refine (PZ.out _ hb1).mono ?_); rintro e w' ⟨rfl, rfl⟩)
            | (go_at_call 25; refine (PL.out _).mono ?_; rintro e w2 ⟨rfl, rfl⟩; have hb2 := hb1.alloc hb1.size (.cells #[.int .u64 v] 35))
            | (go_at_call 26; refine (BG.out _ hb2).mono ?_; rintro e w3 ⟨q, p, b, rfl, o3, hb3, hq, hp, hbb⟩; have hb23 := hb2.trans (hb3.mono hb2.size))
            | (refine wpList_append_came (lx := zs) (v := .slice (some ⟨w3.heap.size, 0, none⟩) 0 0) rfl _ _ 59 rfl Tryz.underlying59 rfl rfl (OwnW.zero (B := w3.heap.size) w3 (Nat.le_refl _)) ZL.out (fun j hj => by
                  obtain ⟨g, off, e, -, hc⟩ := HZ.out.at_ (hb23.alloc hb23.size (.cells #[] 35)) hj
                  exact ⟨g, off, e, hc⟩) (by simp; omega) (by simp) ?_
               intro v4 w4 hown4 hg4 hat4
               rw [List.nil_append] at hown4
               have hrd := hown4.read
               rw [ZL.out] at hrd
               obtain ⟨A4, c4, rfl, hr4⟩ := hrd
               have ht4 : Turns (fun _ => False) w3 w4 := ((Turns.refl (fun _ => False) w3).alloc _).grown hg4 (fun i hi hlt => by simp [Value.ownBlock] at hi; omega))
            | (go_at_call 27; refine (MN.out _ _ _ _).mono ?_; rintro e w' ⟨rfl, rfl⟩)
            | (go_at_call 28; refine (MS.out _).mono ?_; rintro e w' ⟨rfl, rfl⟩)
            | (go_at_call 29; refine (K2.out _).mono ?_; rintro e w5 ⟨rfl, hb5⟩))
          go_ret
          have hb4 := hb23.trans (ht4.below hb23.size (fun i h => h.elim))
          exact ⟨rfl, hb4.trans (hb5.mono hb4.size)⟩
    · rw [Bool.not_eq_true] at hp
      rw [hp] at PZ
      clear hp hwf hn'
      go_enter Tryz.func6, Tryz.ntmps6
      go_wp2_with (first
        | (go_at_call 24; (with_reducible refine AW.out.mono ?_); rintro e w1 ⟨rfl, hb1⟩)
        | (go_at_call 25; (with_reducible refine (PZ.out _ hb1).mono ?_); rintro e w' ⟨rfl, rfl⟩)
        | (go_at_call 24; refine (AW2.out _ hb1).mono ?_; rintro e w3 ⟨rfl, hb3⟩))
      go_ret
      exact ⟨rfl, hb1.trans (hb3.mono hb1.size)⟩
  · clear hwf hn'
    go_enter Tryz.func6, Tryz.ntmps6
    go_wp2_with (first
      | (go_at_call 24; (with_reducible refine AW.out.mono ?_); rintro e w1 ⟨rfl, hb1⟩)
      | (go_at_call 24; refine (AW2.out _ hb1).mono ?_; rintro e w3 ⟨rfl, hb3⟩))
    go_ret
    exact ⟨rfl, hb1.trans (hb3.mono hb1.size)⟩
end Go.Proofs.YtagedholocgahaaGreatDoor
