/- Alloc. -/
import Derived.Test.YtclcnepkgjcmcaaDoorQ22
import Derived.Test.YtclcnepkgjcmcaaDoorQ10
namespace Go.Proofs.YtclcnepkgjcmcaaDoor
open Go.ChangeShapes Go.WideShapes Go.ChangeAt Go.RowKit

section
variable {B : Int} {G : Geo} {H : Hp} {R : Nat → List Int} {q p b : Nat}

theorem cl1_in {n : Int} (n0 : 0 ≤ n) (n1 : n < 128) : cl1 n = (cln n : Int) := by rw [cl1, if_neg (by omega), if_pos (by omega)]

theorem mayBe_yes (f t n : Int) (f0 : 1 ≤ f) (f1 : f ≤ 3) (t0 : 0 ≤ t) (t1 : t < 16) (n0 : 0 ≤ n) (n1 : n < 128) (hw : f = 3 → n = 2) (w : World) (ht : Tab w) :
    Calls Tryd.prog 31 #[.int .i64 f, .int .i64 t, .int .i64 n] w fun e w' => e = .returned (.bool true) ∧ w = w' := by
  have CC := Lib.hid (fun (_ : Unit) => cl1_in n0 n1 ▸ class_any n w ht)
  have c0 : 0 ≤ (cln n : Int) := by omega
  have hf : f = 1 ∨ f = 2 ∨ f = 3 := by omega
  clear ht
  generalize (cln n : Int) = c at *
  rcases hf with rfl | rfl | rfl
  · clear hw
    go_enter Tryd.func31, Tryd.ntmps31
    go_wp2_with (go_at_call 19; refine (CC.out ()).mono ?_; rintro e w' ⟨rfl, rfl⟩)
    go_ret
    exact ⟨rfl, rfl⟩
  · clear hw
    go_enter Tryd.func31, Tryd.ntmps31
    go_wp2_with (go_at_call 19; refine (CC.out ()).mono ?_; rintro e w' ⟨rfl, rfl⟩)
    go_ret
    exact ⟨rfl, rfl⟩
  · obtain rfl := hw rfl
    clear hw n0 n1
    go_enter Tryd.func31, Tryd.ntmps31
    go_wp2_with (go_at_call 19; refine (CC.out ()).mono ?_; rintro e w' ⟨rfl, rfl⟩)
    go_ret
    exact ⟨rfl, rfl⟩

/-- a new cell's fields -/
theorem clear_any (x f : Int) (n : Nat) (hn : n < 128) (f0 : 1 ≤ f) (f1 : f ≤ 3) (w : World) (h : Tr w q p b G H) (x0 : 51 ≤ x) (x1 : x + 3 + n ≤ H.ws.length) (x2 : H.ws.length ≤ 1048576) :
    Calls Tryd.prog 37 #[.pointer (some ⟨q, 0, none⟩), .int .i64 x, .int .i64 f, .int .i64 n] w fun e w' => e = .returned (.tuple #[]) ∧ Tr w' q p b G { H with ws := clearF H.ws x (blank f) n } ∧ Turns (fun k => k = p ∨ k = b) w w' := by
  have VV := Lib.hid (fun w => void_any w)
  have SS := Lib.hid (fun (j : Nat) (hj : j < n) w1 (h1 : Tr w1 q p b G { H with ws := clearF H.ws x (blank f) j }) => hset_any (x + 3 + (j : Int)) (blank f) w1 h1 (by
    show inside (clearF H.ws x (blank f) j).length (x + 3 + (j : Int)) = true
    rw [clearF_len]
    exact inside_mk (by omega) (by omega)))
  have T0 : Tr w q p b G { H with ws := clearF H.ws x (blank f) 0 } := h
  have CS : Hid (∀ j : Nat, clearF H.ws x (blank f) (j + 1) = sv (clearF H.ws x (blank f) j) (x + 3 + (j : Int)) (blank f)) := fun j => rfl
  have hx : x ≤ 1048576 := by omega
  have hf : f = 2 ∧ blank f = 0 ∨ (f == 2) = false ∧ blank f = 12 := by
    by_cases e : f = 2
    · exact .inl ⟨e, by rw [blank, if_pos e]⟩
    · exact .inr ⟨by simpa using e, by rw [blank, if_neg e]⟩
  clear h x1 x2
  generalize clearF H.ws x (blank f) = S at *
  rcases hf with ⟨rfl, hb⟩ | ⟨hf, hb⟩
  all_goals
    rw [hb] at SS CS
    clear hb
    go_enter Tryd.func37, Tryd.ntmps37
    go_wp2_with (go_at_call 14; refine (VV.out _).mono ?_; rintro e w' ⟨rfl, rfl⟩)
    go_loopw [14] (fun c wr => ∃ j : Nat, j ≤ n ∧ c = .int .i64 j ∧ Tr wr q p b G { H with ws := S j } ∧ Turns (fun k => k = p ∨ k = b) w wr) (fun c _ => n - (intOf c).toNat)
    case atStart => exact ⟨0, by omega, rfl, T0, Turns.refl _ _⟩
    case round =>
      obtain ⟨j, hj, rfl, hs, hts⟩ := hrel
      by_cases hjn : j < n
      · have SJ := Lib.hid (SS.out j hjn)
        have CJ := Lib.hid (CS.out j)
        go_wp2_with (go_at_call 55; refine (SJ.out _ hs).mono ?_; rintro e w2 ⟨rfl, hs2, ht2⟩)
        go_roundw
        case rel => exact ⟨j + 1, by omega, by go_num, by rw [CJ.out]; exact hs2, hts.trans ht2⟩
        case measure => simp [intOf]; omega
      · obtain rfl : j = n := by omega
        go_wp2_with fail
        go_end0
        exact ⟨rfl, hs, hts⟩

theorem alloc_nil (f t n : Int) (w : World) :
    Calls Tryd.prog 12 #[.pointer none, .int .i64 f, .int .i64 t, .int .i64 n] w fun e w' => e = .returned (.tuple #[.int .u64 0, er 1]) ∧ w = w' := by
  rw [er_yes (by omega)]
  go_enter Tryd.func12, Tryd.ntmps12
  go_wp2
  go_ret2
  exact ⟨rfl, rfl⟩

/-- no free cell of the size is left behind the increments -/
theorem alloc_no (i : Inv B G H R) (f t n : Int) (f0 : 1 ≤ f) (f1 : f ≤ 3) (t0 : 0 ≤ t) (t1 : t < 16) (n0 : 0 ≤ n) (n1 : n < 128) (hw : f = 3 → n = 2) (hB : B + G.k ≤ 1000000000)
    (hf : (H.incs G G.k.toNat).fre.at_ (cln n) = 0) (w : World) (h : Tr w q p b G H) :
    Calls Tryd.prog 12 #[.pointer (some ⟨q, 0, none⟩), .int .i64 f, .int .i64 t, .int .i64 n] w fun e w' => e = .returned (.tuple #[.int .u64 0, er 4]) ∧ Tr w' q p b G (H.incs G G.k.toNat) ∧ Turns (Own3 q p b) w w' := by
  rw [er_yes (by omega)]
  have hk := i.ok.2.2.2.2.2.2.2.2
  have MB := Lib.hid (mayBe_yes f t n f0 f1 t0 t1 n0 n1 hw w h.tab)
  have c9 : w.cell? ⟨q, 9, none⟩ = some (.int .i64 G.k) := h.here.cell 9
  have IN := Lib.hid (incs_any i G.k (by omega) (by omega) w h)
  have i1 := inv_incs i G.k.toNat (by omega)
  have hc := cln_lt n
  have CC := Lib.hid (fun w1 (h1 : Tr w1 q p b G (H.incs G G.k.toNat)) => cl1_in n0 n1 ▸ class_any n w1 h1.tab)
  have HD : Hid (∀ w, Calls Tryd.prog 33 #[.int .i64 (cln n : Int)] w fun e w' => e = .returned (.int .i64 (hd (cln n))) ∧ w = w') := fun w => head_any (cln n) (by omega) w
  have mh : Mem G.C (hd (cln n)) := .inl ⟨cln n, by omega, rfl⟩
  have BB := Lib.hid (fun w1 h1 => ring_Behind p b (H.incs G G.k.toNat).ws (hd (cln n)) w1 h1 i1.short (mh.pl i1.plc) (i1.first_pl (by omega)))
  have PT := Lib.hid (fun w1 (h1 : Tr w1 q p b G (H.incs G G.k.toNat)) => h1.ptr)
  have FR := Lib.hid (fun w1 (h1 : Tr w1 q p b G (H.incs G G.k.toNat)) => hf ▸ h1.free hc)
  clear h i i1 mh n0 n1 f0 f1 t0 t1 hw hf
  generalize H.incs G G.k.toNat = H1 at *
  generalize hcc : cln n = c at *
  clear hcc
  have i0 : (0 : Int) ≤ (c : Int) := by omega
  have i4 : (c : Int) < 4 := by omega
  have hw0 : IntKind.i64.wrap (c : Int) = (c : Int) := IntWalk.i64_in _ (by omega)
  generalize gv H1.ws (hd c + 2) = x at *
  generalize hd c = d at *
  go_enter Tryd.func12, Tryd.ntmps12
  go_wp2_with (first
    | (go_at_call 31; refine MB.out.mono ?_; rintro e w' ⟨rfl, rfl⟩)
    | (go_at_call 15; refine IN.out.mono ?_; rintro e w1 ⟨rfl, hs1, ht1⟩)
    | (go_at_call 19; refine (CC.out _ hs1).mono ?_; rintro e w' ⟨rfl, rfl⟩))
  have c1 := PT.out _ hs1
  go_region_held3 (fun w' => w'.cell? ⟨q, 0, none⟩ = some (.pointer (some ⟨p, 0, none⟩))) (first | go_keep | exact c2)
    (first
      | (go_at_call 33
         refine (HD.out _).mono ?_
         rintro e w2 ⟨rfl, rfl⟩)
      | (go_at_call 32
         refine (BB.out _ hs1.words.drew).mono ?_
         rintro e w2 ⟨rfl, hs2, ht2⟩
         have c2 := (hs1.stored' ht2.of_drew hs2).ptr))
  have hs3 := hs1.stored' ht2.of_drew hs2
  have ht3 := ht1.trans (own_of_p (q := q) (b := b) ht2.of_drew)
  have cf := FR.out _ hs3
  clear c2 hs2 ht2 c1 hs1 ht1 hw0
  go_wp2_with fail
  go_ret2
  exact ⟨rfl, hs3, ht3⟩

theorem alloc_yes (i : Inv B G H R) (f t n : Int) (f0 : 1 ≤ f) (f1 : f ≤ 3) (t0 : 0 ≤ t) (t1 : t < 16) (n0 : 0 ≤ n) (n1 : n < 128) (hw : f = 3 → n = 2) (hB : B + G.k ≤ 1000000000)
    (hf : (H.incs G G.k.toNat).fre.at_ (cln n) ≠ 0) (w : World) (h : Tr w q p b G H) :
    Calls Tryd.prog 12 #[.pointer (some ⟨q, 0, none⟩), .int .i64 f, .int .i64 t, .int .i64 n] w fun e w' =>
      e = .returned (.tuple #[.int .u64 (8 * (H.incs G G.k.toNat).firstFree (cln n) + 1), .nilIface]) ∧ Tr w' q p b G ((H.incs G G.k.toNat).alloc f t n) ∧ Turns (Own3 q p b) w w' := by
  have hk := i.ok.2.2.2.2.2.2.2.2
  have MB := Lib.hid (mayBe_yes f t n f0 f1 t0 t1 n0 n1 hw w h.tab)
  have c9 : w.cell? ⟨q, 9, none⟩ = some (.int .i64 G.k) := h.here.cell 9
  have IN := Lib.hid (incs_any i G.k (by omega) (by omega) w h)
  have i1 := inv_incs i G.k.toNat (by omega)
  have hc := cln_lt n
  have CC := Lib.hid (fun w1 (h1 : Tr w1 q p b G (H.incs G G.k.toNat)) => cl1_in n0 n1 ▸ class_any n w1 h1.tab)
  have HD : Hid (∀ w, Calls Tryd.prog 33 #[.int .i64 (cln n : Int)] w fun e w' => e = .returned (.int .i64 (hd (cln n))) ∧ w = w') := fun w => head_any (cln n) (by omega) w
  have H8 : Hid (∀ w, Calls Tryd.prog 33 #[.int .i64 (8 + (cln n : Int))] w fun e w' => e = .returned (.int .i64 (hd (8 + cln n))) ∧ w = w') := fun w => head_any (8 + cln n) (by omega) w
  have mh : Mem G.C (hd (cln n)) := .inl ⟨cln n, by omega, rfl⟩
  have BB : Hid (∀ w1, Sto w1 p b (H.incs G G.k.toNat).ws → Calls Tryd.prog 32 #[.pointer (some ⟨p, 0, none⟩), .int .i64 (hd (cln n))] w1 fun e w' =>
      e = .returned (.tuple #[.int .i64 ((H.incs G G.k.toNat).firstFree (cln n)), .nilIface]) ∧ Sto w' p b (H.incs G G.k.toNat).ws ∧ Turns (· = p) w1 w') :=
    fun w1 h1 => ring_Behind p b (H.incs G G.k.toNat).ws (hd (cln n)) w1 h1 i1.short (mh.pl i1.plc) (i1.first_pl (by omega))
  have PT := Lib.hid (fun w1 (h1 : Tr w1 q p b G (H.incs G G.k.toNat)) => h1.ptr)
  have FR := Lib.hid (fun w1 (h1 : Tr w1 q p b G (H.incs G G.k.toNat)) => h1.free hc)
  have FF := Lib.hid (fun w1 (h1 : Tr w1 q p b G (H.incs G G.k.toNat)) => h1.here.free (10 + cln n))
  have SF := Lib.hid (fun w1 (h1 : Tr w1 q p b G (H.incs G G.k.toNat)) => h1.set_free hc ((H.incs G G.k.toNat).fre.at_ (cln n) - 1))
  obtain ⟨j1, -, -, -, hb, hq⟩ := inv_take i1 f0 f1 t0 t1 n0 n1 hw hf
  have MV := Lib.hid (fun w1 (h1 : Tr w1 q p b G { H.incs G G.k.toNat with fre := (H.incs G G.k.toNat).fre.put (cln n) ((H.incs G G.k.toNat).fre.at_ (cln n) - 1) }) => move_any ((H.incs G G.k.toNat).firstFree (cln n)) (hd (8 + cln n)) w1 h1 hq)
  have hC := i1.rg.place (cln n) (by omega) _ hb
  have hin : inside (({ H.incs G G.k.toNat with fre := (H.incs G G.k.toNat).fre.put (cln n) ((H.incs G G.k.toNat).fre.at_ (cln n) - 1) } : Hp).move ((H.incs G G.k.toNat).firstFree (cln n)) (hd (8 + cln n))).ws.length ((H.incs G G.k.toNat).firstFree (cln n)) = true := by
    show inside (ins (rem (H.incs G G.k.toNat).ws _) _ _).length _ = true
    rw [ins_length, rem_length]
    exact i1.into hC
  have hmb := mshape_bd (f := f) (t := t) (n := n) (by omega) (by omega) t0 t1 n0 n1
  have SH := Lib.hid (fun w => shape_any f t n (by omega) (by omega) t0 t1 n0 n1 w)
  have SM := Lib.hid (fun w1 (h1 : Tr w1 q p b G (({ H.incs G G.k.toNat with fre := (H.incs G G.k.toNat).fre.put (cln n) ((H.incs G G.k.toNat).fre.at_ (cln n) - 1) } : Hp).move ((H.incs G G.k.toNat).firstFree (cln n)) (hd (8 + cln n)))) =>
    setMark_any ((H.incs G G.k.toNat).firstFree (cln n)) (mshape f t n) 0 w1 h1 hin (by omega) (by omega) (by omega) (by omega) (show Hp.inTime (({ H.incs G G.k.toNat with fre := (H.incs G G.k.toNat).fre.put (cln n) ((H.incs G G.k.toNat).fre.at_ (cln n) - 1) } : Hp).move ((H.incs G G.k.toNat).firstFree (cln n)) (hd (8 + cln n))) from i1.inTime))
  have hcl : G.cls ((H.incs G G.k.toNat).firstFree (cln n)) = cln n := by
    have := i1.cls (cln n) _ (by omega) hb
    omega
  have hext := Geo.extent i.ok hC
  have hln : n + 3 ≤ ln (cln n) := by
    unfold cln ln
    (repeat' split) <;> omega
  rw [hcl] at hext
  have hlen := i1.len
  have hlen2 : ((H.incs G G.k.toNat).take (cln n) (mshape f t n)).ws.length = (H.incs G G.k.toNat).ws.length := by
    show (sv (ins (rem (H.incs G G.k.toNat).ws _) _ _) _ _).length = _
    rw [sv_length, ins_length, rem_length]
  have hshort := i1.short
  obtain ⟨n', rfl⟩ := Int.eq_ofNat_of_zero_le n0
  have CL := Lib.hid (fun w1 (h1 : Tr w1 q p b G ((H.incs G G.k.toNat).take (cln (n' : Int)) (mshape f t n'))) =>
    clear_any ((H.incs G G.k.toNat).firstFree (cln (n' : Int))) f n' (by omega) f0 f1 w1 h1 (by omega) (by rw [hlen2]; omega) (by rw [hlen2]; exact hshort))
  have E : Hid ((H.incs G G.k.toNat).alloc f t n' = { (H.incs G G.k.toNat).take (cln (n' : Int)) (mshape f t n') with ws := clearF ((H.incs G G.k.toNat).take (cln (n' : Int)) (mshape f t n')).ws ((H.incs G G.k.toNat).firstFree (cln (n' : Int))) (blank f) n' }) := by
    unfold Hid Hp.alloc
    rw [Int.toNat_natCast]
  have ET : Hid ((({ H.incs G G.k.toNat with fre := (H.incs G G.k.toNat).fre.put (cln (n' : Int)) ((H.incs G G.k.toNat).fre.at_ (cln (n' : Int)) - 1) } : Hp).move ((H.incs G G.k.toNat).firstFree (cln (n' : Int))) (hd (8 + cln (n' : Int)))).setMark ((H.incs G G.k.toNat).firstFree (cln (n' : Int))) (mshape f t n') 0 = (H.incs G G.k.toNat).take (cln (n' : Int)) (mshape f t n')) := rfl
  rw [ET.out] at SM
  have WC : Hid (∀ w, Calls Tryd.prog 38 #[.int .i64 ((H.incs G G.k.toNat).firstFree (cln (n' : Int)))] w fun e w' => e = .returned (.tuple #[.int .u64 (8 * (H.incs G G.k.toNat).firstFree (cln (n' : Int)) + 1), .nilIface]) ∧ w = w') := fun w => by
    have hcell := cell_any ((H.incs G G.k.toNat).firstFree (cln (n' : Int))) w
    have hh : WM.hd 1 ((H.incs G G.k.toNat).firstFree (cln (n' : Int))) = true := by
      simp [WM.hd, WM.least, WM.most]
      omega
    rw [made, if_pos hh, show WM.mk 1 ((H.incs G G.k.toNat).firstFree (cln (n' : Int))) = 8 * (H.incs G G.k.toNat).firstFree (cln (n' : Int)) + 1 by unfold WM.mk; omega] at hcell
    exact hcell
  have hfr := i1.small (cln (n' : Int)) hc
  have hx0 : 51 ≤ (H.incs G G.k.toNat).firstFree (cln (n' : Int)) := hext.1
  rw [E.out]
  clear E ET h i i1 j1 hb hq hC hin hmb hcl hext hln hlen hlen2 hshort mh f0 f1 t0 t1 hw n0
  generalize (H.incs G G.k.toNat).take (cln (n' : Int)) (mshape f t n') = H4 at *
  generalize (H.incs G G.k.toNat).firstFree (cln (n' : Int)) = x at *
  generalize H.incs G G.k.toNat = H1 at *
  generalize mshape f t n' = m at *
  generalize hcc : cln (n' : Int) = c at *
  clear hcc
  have i0 : (0 : Int) ≤ (c : Int) := by omega
  have i4 : (c : Int) < 4 := by omega
  have hw0 : IntKind.i64.wrap (c : Int) = (c : Int) := IntWalk.i64_in _ (by omega)
  obtain ⟨-, -, r0, r1⟩ := hfr
  have hfb : (H1.fre.at_ c == 0) = false := by simpa using hf
  clear hf
  generalize hd c = d at *
  generalize hd (8 + c) = d8 at *
  go_enter Tryd.func12, Tryd.ntmps12
  go_wp2_with (first
    | (go_at_call 31; refine MB.out.mono ?_; rintro e w' ⟨rfl, rfl⟩)
    | (go_at_call 15; refine IN.out.mono ?_; rintro e w1 ⟨rfl, hs1, ht1⟩)
    | (go_at_call 19; refine (CC.out _ hs1).mono ?_; rintro e w' ⟨rfl, rfl⟩))
  have c1 := PT.out _ hs1
  go_region_held3 (fun w' => w'.cell? ⟨q, 0, none⟩ = some (.pointer (some ⟨p, 0, none⟩))) (first | go_keep | exact c2)
    (first
      | (go_at_call 33
         refine (HD.out _).mono ?_
         rintro e w2 ⟨rfl, rfl⟩)
      | (go_at_call 32
         refine (BB.out _ hs1.words.drew).mono ?_
         rintro e w2 ⟨rfl, hs2, ht2⟩
         have c2 := (hs1.stored' ht2.of_drew hs2).ptr))
  have hs3 := hs1.stored' ht2.of_drew hs2
  have ht3 := ht1.trans (own_of_p (q := q) (b := b) ht2.of_drew)
  have cf := FR.out _ hs3
  have ff := FF.out _ hs3
  clear c2 hs2 ht2 c1 hs1 ht1 hw0
  have hwr : IntKind.i64.wrap (H1.fre.at_ c - 1) = H1.fre.at_ c - 1 := IntWalk.i64_in _ (by omega)
  go_wp2_with fail
  go_region_with (fail)
  have hs4 := (SF.out _ hs3).drew
  have ht4 := (ht3.setCell (p := ⟨q, 10 + c, none⟩) (fun _ => .inl rfl) (.int .i64 (H1.fre.at_ c - 1))).drew
  clear hwr cf ff hs3 ht3
  go_wp2_with (first
    | (go_at_call 33; refine (H8.out _).mono ?_; rintro e w2 ⟨rfl, rfl⟩)
    | (go_at_call 34; refine (MV.out _ hs4).mono ?_; rintro e w5 ⟨rfl, hs5, ht5⟩)
    | (go_at_call 36; refine (SH.out _).mono ?_; rintro e w' ⟨rfl, rfl⟩)
    | (go_at_call 35; refine (SM.out _ hs5).mono ?_; rintro e w6 ⟨rfl, hs6, ht6⟩)
    | (go_at_call 37; refine (CL.out _ hs6).mono ?_; rintro e w7 ⟨rfl, hs7, ht7⟩)
    | (go_at_call 38; refine (WC.out _).mono ?_; rintro e w' ⟨rfl, rfl⟩))
  go_ret2
  exact ⟨rfl, hs7, ht4.trans ((own_of_pb ht5).trans ((own_of_pb ht6).trans (own_of_pb ht7)))⟩
end
end Go.Proofs.YtclcnepkgjcmcaaDoor
