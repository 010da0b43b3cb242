/- Fields, registers, shapes, counts. -/
import Derived.Test.YtclcnepkgjcmcaaDoorQ23
namespace Go.Proofs.YtclcnepkgjcmcaaDoor
open Go.ChangeShapes Go.WideShapes Go.ChangeAt Go.RowKit

theorem results_tmp4 {fn : Func} {t u v x : Tmp} (h : fn.results = #[.tmp t, .tmp u, .tmp v, .tmp x]) (tmps : Array Value) (P : Program) (w : World) :
    (results fn tmps).run P w = .ok (.tuple #[tmps.getD t undef, tmps.getD u undef, tmps.getD v undef, tmps.getD x undef]) w := by simp [results, h]
section
variable {B : Int} {G : Geo} {H : Hp} {R : Nat → List Int} {q p b : Nat}

theorem find_nil (v : Int) (w : World) :
    Calls Tryd.prog 45 #[.pointer none, .int .u64 v] w fun e w' => e = .returned (.tuple #[.int .u64 0, .int .i64 0, .iface 58 (.int .i64 1)]) ∧ w = w' := by
  go_enter Tryd.func45, Tryd.ntmps45
  go_wp2
  go_ret3
  exact ⟨rfl, rfl⟩
theorem find_no (g : G.ok) (v : Int) (h0 : 0 ≤ v) (h1 : v < 18446744073709551616) (hp : (G.plc v).2 = false) (w : World) (h : Tr w q p b G H) :
    Calls Tryd.prog 45 #[.pointer (some ⟨q, 0, none⟩), .int .u64 v] w fun e w' => e = .returned (.tuple #[.int .u64 0, .int .i64 0, .iface 58 (.int .i64 2)]) ∧ ∃ k, w' = w.drewN k := by
  have PP := Lib.hid (place_any g v h0 h1 w h)
  rw [hp] at PP
  clear hp h g
  generalize (G.plc v).1 = x at *
  go_enter Tryd.func45, Tryd.ntmps45
  go_wp2_with (go_at_call 65; refine PP.out.mono ?_; rintro e w' ⟨rfl, k, rfl⟩)
  go_ret3
  exact ⟨rfl, _, rfl⟩
theorem find_yes (i : Inv B G H R) (x : Int) (hC : G.C x) (w : World) (h : Tr w q p b G H) :
    Calls Tryd.prog 45 #[.pointer (some ⟨q, 0, none⟩), .int .u64 (8 * x + 1)] w fun e w' => e = .returned (.tuple #[.int .u64 (gv H.ws x), .int .i64 x, .nilIface]) ∧ Tr w' q p b G H ∧ Turns (Own3 q p b) w w' := by
  have hx := Geo.extent i.ok hC
  have hl := ln_lo (G.cls x)
  have ht := i.ok.lines
  have PP := Lib.hid (place_any i.ok (8 * x + 1) (by omega) (by omega) w h)
  rw [plc_of_cell i.ok hC] at PP
  have TT := Lib.hid (fun k => h.drewN k)
  have MM := Lib.hid (fun w1 (h1 : Tr w1 q p b G H) => mark_any x w1 h1 (i.into hC))
  clear h i hx hl ht hC
  generalize gv H.ws x = m at *
  generalize 8 * x + 1 = v at *
  go_enter Tryd.func45, Tryd.ntmps45
  go_wp2_with (first
    | (go_at_call 65; refine PP.out.mono ?_; rintro e w' ⟨rfl, k, rfl⟩)
    | (go_at_call 67; refine (MM.out _ (TT.out k)).mono ?_; rintro e w2 ⟨rfl, hs2, ht2⟩))
  go_ret3
  exact ⟨rfl, hs2, (own_drewN _ _).trans (own_of_p ht2)⟩

theorem field_nil (v j : Int) (w : World) :
    Calls Tryd.prog 51 #[.pointer none, .int .u64 v, .int .i64 j] w fun e w' => e = .returned (.tuple #[.int .u64 0, .int .i64 0, .iface 58 (.int .i64 1)]) ∧ w = w' := by
  go_enter Tryd.func51, Tryd.ntmps51
  go_wp2_with (go_at_call 45; refine (find_nil _ _).mono ?_; rintro e w' ⟨rfl, rfl⟩)
  go_ret3
  exact ⟨rfl, rfl⟩
theorem field_yes (i : Inv B G H R) (x : Int) (hC : G.C x) (j : Int) (j0 : 0 ≤ j) (j1 : j < msize (gv H.ws x)) (w : World) (h : Tr w q p b G H) :
    Calls Tryd.prog 51 #[.pointer (some ⟨q, 0, none⟩), .int .u64 (8 * x + 1), .int .i64 j] w fun e w' => e = .returned (.tuple #[.int .u64 (gv H.ws x), .int .i64 (x + 3 + j), .nilIface]) ∧ Tr w' q p b G H ∧ Turns (Own3 q p b) w w' := by
  have hx := Geo.extent i.ok hC
  have hl := ln_lo (G.cls x)
  have ht := i.ok.lines
  have x0 : 51 ≤ x := hx.1
  have x1 : x ≤ 1048576 := by omega
  have hr := i.wrd x
  have hz := (msize_bd (gv H.ws x)).2
  have FF := Lib.hid (find_yes i x hC w h)
  have ZZ := Lib.hid (fun w => size_any (gv H.ws x) hr.1 hr.2 w)
  clear h i hx hl ht hC hr
  generalize gv H.ws x = m at *
  generalize msize m = s at *
  generalize 8 * x + 1 = v at *
  have jm : j < 128 := by omega
  have g1 : decide (s ≤ j) = false := by simp; omega
  go_enter Tryd.func51, Tryd.ntmps51
  go_wp2_with (first
    | (go_at_call 45; refine FF.out.mono ?_; rintro e w2 ⟨rfl, hs2, ht2⟩)
    | (go_at_call 48; refine (ZZ.out _).mono ?_; rintro e w' ⟨rfl, rfl⟩))
  go_ret3
  exact ⟨rfl, hs2, ht2⟩

theorem Get_nil (v j : Int) (w : World) :
    Calls Tryd.prog 23 #[.pointer none, .int .u64 v, .int .i64 j] w fun e w' => e = .returned (.tuple #[.int .u64 0, .iface 58 (.int .i64 1)]) ∧ w = w' := by
  go_enter Tryd.func23, Tryd.ntmps23
  go_wp2_with (go_at_call 51; refine (field_nil _ _ _).mono ?_; rintro e w' ⟨rfl, rfl⟩)
  go_ret2
  exact ⟨rfl, rfl⟩
/-- a field of a cell that is had: a weak one's is shaded -/
theorem Get_yes (i : Inv B G H R) (x : Int) {k : Nat} (h4 : 4 ≤ k) (hk : k < 13) (hx : x ∈ R k) (j : Int) (j0 : 0 ≤ j) (j1 : j < msize (gv H.ws x)) (w : World) (h : Tr w q p b G H) :
    Calls Tryd.prog 23 #[.pointer (some ⟨q, 0, none⟩), .int .u64 (8 * x + 1), .int .i64 j] w fun e w' => e = .returned (.tuple #[.int .u64 (gv H.ws (x + 3 + j)), .nilIface]) ∧
      Tr w' q p b G (if mform (gv H.ws x) = 3 then H.shade G (gv H.ws (x + 3 + j)) else H) ∧ Turns (Own3 q p b) w w' := by
  have hC := i.rg.place k hk x hx
  have hr := i.wrd x
  have FF := Lib.hid (field_yes i x hC j j0 j1 w h)
  have GG := Lib.hid (fun w1 (h1 : Tr w1 q p b G H) => hget_any (x + 3 + j) w1 h1 (i.fields h4 hk hx j0 j1).1)
  have FM := Lib.hid (fun w => form_any (gv H.ws x) hr.1 hr.2 w)
  have SS := Lib.hid (fun w1 (h1 : Tr w1 q p b G H) => shade_any i (gv H.ws (x + 3 + j)) (i.wrd _).1 (i.wrd _).2 w1 h1)
  clear h i hr hC hx j0 j1
  generalize gv H.ws (x + 3 + j) = f at *
  generalize x + 3 + j = at_ at *
  generalize 8 * x + 1 = v at *
  generalize gv H.ws x = m at *
  by_cases e3 : mform m = 3
  · rw [if_pos e3]
    rw [e3] at FM
    clear e3
    go_enter Tryd.func23, Tryd.ntmps23
    go_wp2_with (first
      | (go_at_call 51; refine FF.out.mono ?_; rintro e w2 ⟨rfl, hs2, ht2⟩)
      | (go_at_call 52; refine (GG.out _ hs2).mono ?_; rintro e w3 ⟨rfl, hs3, ht3⟩)
      | (go_at_call 46; refine (FM.out _).mono ?_; rintro e w' ⟨rfl, rfl⟩)
      | (go_at_call 41; refine (SS.out _ hs3).mono ?_; rintro e w4 ⟨rfl, hs4, ht4⟩))
    go_ret2
    exact ⟨rfl, hs4, ht2.trans ((own_of_p ht3).trans ht4)⟩
  · rw [if_neg e3]
    have eb : (mform m == 3) = false := by simpa using e3
    clear e3
    generalize mform m = fm at *
    go_enter Tryd.func23, Tryd.ntmps23
    go_wp2_with (first
      | (go_at_call 51; refine FF.out.mono ?_; rintro e w2 ⟨rfl, hs2, ht2⟩)
      | (go_at_call 52; refine (GG.out _ hs2).mono ?_; rintro e w3 ⟨rfl, hs3, ht3⟩)
      | (go_at_call 46; refine (FM.out _).mono ?_; rintro e w' ⟨rfl, rfl⟩))
    go_ret2
    exact ⟨rfl, hs3, ht2.trans (own_of_p ht3)⟩

/-- what may stand where values do -/
def Geo.may (G : Geo) (v : Int) : Bool := (G.plc v).2 || WM.kd v != 2
theorem Value_any (i : Inv B G H R) (v : Int) (h0 : 0 ≤ v) (h1 : v < 18446744073709551616) (w : World) (h : Tr w q p b G H) :
    Calls Tryd.prog 40 #[.pointer (some ⟨q, 0, none⟩), .int .u64 v] w fun e w' => e = .returned (.bool (G.may v)) ∧ ∃ k, w' = w.drewN k := by
  have PP := Lib.hid (place_any i.ok v h0 h1 w h)
  have KK := Lib.hid (fun w => kind_any v h0 h1 w)
  have E : Hid (G.may v = ((G.plc v).2 || WM.kd v != 2)) := rfl
  clear h i
  generalize (G.plc v).1 = x at *
  generalize G.may v = r at *
  generalize WM.kd v = kd at *
  cases hp : (G.plc v).2
  · rw [hp] at PP E
    obtain rfl : r = (kd != 2) := E.out
    clear hp
    go_enter Tryd.func40, Tryd.ntmps40
    go_wp2_with (first
      | (go_at_call 65; refine PP.out.mono ?_; rintro e w' ⟨rfl, k, rfl⟩)
      | (go_at_call 66; refine (KK.out _).mono ?_; rintro e w' ⟨rfl, rfl⟩))
    go_ret
    exact ⟨rfl, _, rfl⟩
  · rw [hp] at PP E
    obtain rfl : r = true := E.out
    clear hp
    go_enter Tryd.func40, Tryd.ntmps40
    go_wp2_with (first
      | (go_at_call 65; refine PP.out.mono ?_; rintro e w' ⟨rfl, k, rfl⟩))
    go_ret
    exact ⟨rfl, _, rfl⟩

theorem register_nil (j : Int) (w : World) :
    Calls Tryd.prog 39 #[.pointer none, .int .i64 j] w fun e w' => e = .returned (.iface 58 (.int .i64 1)) ∧ w = w' := by
  go_enter Tryd.func39, Tryd.ntmps39
  go_wp2
  go_ret
  exact ⟨rfl, rfl⟩
theorem register_yes (q : Nat) (j : Int) (j0 : 0 ≤ j) (j1 : j < 12) (w : World) :
    Calls Tryd.prog 39 #[.pointer (some ⟨q, 0, none⟩), .int .i64 j] w fun e w' => e = .returned .nilIface ∧ w = w' := by
  go_enter Tryd.func39, Tryd.ntmps39
  go_wp2
  go_ret
  exact ⟨rfl, rfl⟩
theorem register_no (q : Nat) (j : Int) (hj : j < 0 ∨ 12 ≤ j) (w : World) :
    Calls Tryd.prog 39 #[.pointer (some ⟨q, 0, none⟩), .int .i64 j] w fun e w' => e = .returned (.iface 58 (.int .i64 3)) ∧ w = w' := by
  have hj' : j < 0 ∨ 0 ≤ j ∧ 12 ≤ j := by omega
  clear hj
  rcases hj' with h | ⟨h, h'⟩
  all_goals
    go_enter Tryd.func39, Tryd.ntmps39
    go_wp2
    go_ret
    exact ⟨rfl, rfl⟩


theorem SetRoot_nil (j v : Int) (w : World) :
    Calls Tryd.prog 13 #[.pointer none, .int .i64 j, .int .u64 v] w fun e w' => e = .returned (.iface 58 (.int .i64 1)) ∧ w = w' := by
  go_enter Tryd.func13, Tryd.ntmps13
  go_wp2_with (go_at_call 39; refine (register_nil _ _).mono ?_; rintro e w' ⟨rfl, rfl⟩)
  go_ret
  exact ⟨rfl, rfl⟩
theorem SetRoot_no (j v : Int) (hj : j < 0 ∨ 12 ≤ j) (w : World) :
    Calls Tryd.prog 13 #[.pointer (some ⟨q, 0, none⟩), .int .i64 j, .int .u64 v] w fun e w' => e = .returned (.iface 58 (.int .i64 3)) ∧ w = w' := by
  have RR := Lib.hid (register_no q j hj w)
  clear hj
  go_enter Tryd.func13, Tryd.ntmps13
  go_wp2_with (go_at_call 39; refine RR.out.mono ?_; rintro e w' ⟨rfl, rfl⟩)
  go_ret
  exact ⟨rfl, rfl⟩
theorem SetRoot_yes (i : Inv B G H R) (j v : Int) (j0 : 0 ≤ j) (j1 : j < 12) (h0 : 0 ≤ v) (h1 : v < 18446744073709551616) (hm : G.may v = true) (w : World) (h : Tr w q p b G H) :
    Calls Tryd.prog 13 #[.pointer (some ⟨q, 0, none⟩), .int .i64 j, .int .u64 v] w fun e w' => e = .returned .nilIface ∧ Tr w' q p b G (H.setRoot G j v) ∧ Turns (Own3 q p b) w w' := by
  have RR := Lib.hid (register_yes q j j0 j1 w)
  have VV := Lib.hid (hm ▸ Value_any i v h0 h1 w h)
  have SS := Lib.hid (fun k => shade_any i v h0 h1 (w.drewN k) (h.drewN k))
  obtain ⟨i1, d1, -⟩ := inv_shade i h0 h1
  have hin : inside (H.shade G v).ws.length j = true := by
    have := i1.len
    have := i1.ok.lines
    exact inside_mk j0 (by omega)
  have ST := Lib.hid (fun w1 (h1 : Tr w1 q p b G (H.shade G v)) => set_in p b (H.shade G v).ws j v w1 h1.words hin)
  have PT := Lib.hid (fun w1 (h1 : Tr w1 q p b G (H.shade G v)) => h1.ptr)
  have E : Hid (({ H.shade G v with ws := sv (H.shade G v).ws j v } : Hp) = H.setRoot G j v) := rfl
  clear h i i1 d1 hin hm
  generalize H.setRoot G j v = H2 at *
  generalize H.shade G v = H1 at *
  go_enter Tryd.func13, Tryd.ntmps13
  go_wp2_with (first
    | (go_at_call 39; refine RR.out.mono ?_; rintro e w' ⟨rfl, rfl⟩)
    | (go_at_call 40; refine VV.out.mono ?_; rintro e w' ⟨rfl, k, rfl⟩)
    | (go_at_call 41
       refine (SS.out _).mono ?_
       rintro e w2 ⟨rfl, hs2, ht2⟩
       have c2 := PT.out _ hs2)
    | (go_at_call 42; refine (ST.out _ hs2).mono ?_; rintro e w3 ⟨rfl, hs3, ht3⟩))
  go_ret
  exact ⟨rfl, by rw [← E.out]; exact hs2.stored ht3 hs3, (own_drewN _ _).trans (ht2.trans (own_of_pb ht3))⟩

theorem Shape_nil (v : Int) (w : World) :
    Calls Tryd.prog 16 #[.pointer none, .int .u64 v] w fun e w' => e = .returned (.tuple #[.int .i64 0, .int .i64 0, .int .i64 0, .iface 58 (.int .i64 1)]) ∧ w = w' := by
  go_enter Tryd.func16, Tryd.ntmps16
  go_wp2_with (go_at_call 45; refine (find_nil _ _).mono ?_; rintro e w' ⟨rfl, rfl⟩)
  refine bodyPost_ret (results_tmp4 rfl _ _ _) rfl ?_
  exact ⟨rfl, rfl⟩
theorem Shape_no (g : G.ok) (v : Int) (h0 : 0 ≤ v) (h1 : v < 18446744073709551616) (hp : (G.plc v).2 = false) (w : World) (h : Tr w q p b G H) :
    Calls Tryd.prog 16 #[.pointer (some ⟨q, 0, none⟩), .int .u64 v] w fun e w' => e = .returned (.tuple #[.int .i64 0, .int .i64 0, .int .i64 0, .iface 58 (.int .i64 2)]) ∧ Tr w' q p b G H ∧ Turns (Own3 q p b) w w' := by
  have FF := Lib.hid (find_no g v h0 h1 hp w h)
  have TT := Lib.hid (fun k => h.drewN k)
  clear h g hp
  go_enter Tryd.func16, Tryd.ntmps16
  go_wp2_with (go_at_call 45; refine FF.out.mono ?_; rintro e w' ⟨rfl, k, rfl⟩)
  refine bodyPost_ret (results_tmp4 rfl _ _ _) rfl ?_
  exact ⟨rfl, TT.out k, own_drewN _ _⟩
theorem Shape_yes (i : Inv B G H R) (x : Int) (hC : G.C x) (w : World) (h : Tr w q p b G H) :
    Calls Tryd.prog 16 #[.pointer (some ⟨q, 0, none⟩), .int .u64 (8 * x + 1)] w fun e w' => e = .returned (.tuple #[.int .i64 (mform (gv H.ws x)), .int .i64 (mtag (gv H.ws x)), .int .i64 (msize (gv H.ws x)), .nilIface]) ∧ Tr w' q p b G H ∧ Turns (Own3 q p b) w w' := by
  have hr := i.wrd x
  have FF := Lib.hid (find_yes i x hC w h)
  have F1 := Lib.hid (fun w => form_any (gv H.ws x) hr.1 hr.2 w)
  have F2 := Lib.hid (fun w => tag_any (gv H.ws x) hr.1 hr.2 w)
  have F3 := Lib.hid (fun w => size_any (gv H.ws x) hr.1 hr.2 w)
  clear h i hr hC
  generalize gv H.ws x = m at *
  generalize mform m = y1 at *
  generalize mtag m = y2 at *
  generalize msize m = y3 at *
  generalize 8 * x + 1 = v at *
  go_enter Tryd.func16, Tryd.ntmps16
  go_wp2_with (first
    | (go_at_call 45; refine FF.out.mono ?_; rintro e w2 ⟨rfl, hs2, ht2⟩)
    | (go_at_call 46; refine (F1.out _).mono ?_; rintro e w' ⟨rfl, rfl⟩)
    | (go_at_call 47; refine (F2.out _).mono ?_; rintro e w' ⟨rfl, rfl⟩)
    | (go_at_call 48; refine (F3.out _).mono ?_; rintro e w' ⟨rfl, rfl⟩))
  refine bodyPost_ret (results_tmp4 rfl _ _ _) rfl ?_
  exact ⟨rfl, hs2, ht2⟩

theorem Free_nil (c : Int) (w : World) :
    Calls Tryd.prog 11 #[.pointer none, .int .i64 c] w fun e w' => e = .returned (.int .i64 0) ∧ w = w' := by
  go_enter Tryd.func11, Tryd.ntmps11
  go_wp2
  go_ret
  exact ⟨rfl, rfl⟩
theorem Free_any (c : Nat) (hc : c < 4) (w : World) (h : Tr w q p b G H) :
    Calls Tryd.prog 11 #[.pointer (some ⟨q, 0, none⟩), .int .i64 c] w fun e w' => e = .returned (.int .i64 (H.fre.at_ c)) ∧ w = w' := by
  have cf := h.free hc
  have i0 : (0 : Int) ≤ (c : Int) := by omega
  have i4 : (c : Int) < 4 := by omega
  clear h
  go_enter Tryd.func11, Tryd.ntmps11
  go_wp2
  go_ret
  exact ⟨rfl, rfl⟩
end
end Go.Proofs.YtclcnepkgjcmcaaDoor
