/- Package env: a new alias. -/
import Derived.Test.YtbkjmmeipbbaaaaDoorEnvAliM
import Derived.WalkSpells
import Derived.Carry
namespace Go.Proofs.YtbkjmmeipbbaaaaDoor
open Go.ChangeShapes Go.WideShapes Go.ChangeAt Go.RowKit

set_option maxRecDepth 100000 in
theorem ali_nil (a : Int) (x : ByteArray) (w : World) :
    Calls Tryd.prog 13 #[.pointer none, .string x, .int .i64 a] w fun e w' => e = .returned (.tuple #[.string ByteArray.empty, er 1]) ∧ Went w w' := by
  have hK := Lib.hid (fun w => check_nil a x w)
  rw [er_y (by omega)] at hK ⊢
  go_enter Tryd.func13, Tryd.ntmps13
  go_wp2_with (go_at_call 24; refine (hK.out _).mono ?_; rintro e w' ⟨rfl, rfl⟩)
  go_ret2
  exact ⟨rfl, Below.refl _ w⟩
set_option maxRecDepth 100000 in
theorem ali_bad (p : Nat) (D : Nat → Prop) (T : EM.Tb) (a : Int) (x : ByteArray) (hx : x.size ≤ 1000) (w : World) (h : Tw w p D T) (hc : EM.ck T a x ≠ 0) :
    Calls Tryd.prog 13 #[.pointer (some ⟨p, 0, none⟩), .string x, .int .i64 a] w fun e w' => e = .returned (.tuple #[.string ByteArray.empty, er (EM.ck T a x)]) ∧ Went w w' := by
  have hK := Lib.hid (fun w h => check_any p D T a x (by omega) w h)
  have h' := Lib.hid h
  clear h hx
  rw [er_y hc] at hK ⊢
  obtain ⟨j, hj⟩ : ∃ j, EM.ck T a x = j := ⟨_, rfl⟩
  rw [hj] at hK ⊢
  clear hj hc
  go_enter Tryd.func13, Tryd.ntmps13
  go_wp2_with (go_at_call 24; refine (hK.out _ h'.out).mono ?_; rintro e w' ⟨rfl, hb⟩)
  go_ret2
  exact ⟨rfl, hb⟩
set_option maxRecDepth 100000 in
theorem ali_full (p : Nat) (D : Nat → Prop) (T : EM.Tb) (a : Int) (x : ByteArray) (hx : x.size ≤ 1000) (w : World) (h : Tw w p D T) (hc : EM.ck T a x = 0) (hn : T.na = 65536) :
    Calls Tryd.prog 13 #[.pointer (some ⟨p, 0, none⟩), .string x, .int .i64 a] w fun e w' => e = .returned (.tuple #[.string ByteArray.empty, er 14]) ∧ Went w w' := by
  have hK := Lib.hid (fun w h => check_any p D T a x (by omega) w h)
  have h' := Lib.hid h
  have hn' := Lib.hid hn
  clear h hx hn
  rw [hc, er_n] at hK
  rw [er_y (by omega)]
  clear hc
  go_enter Tryd.func13, Tryd.ntmps13
  go_wp2_with (first
    | (go_at_call 24
       refine (hK.out _ h'.out).mono ?_
       rintro e w2 ⟨rfl, hb⟩
       have hb2 := Lib.hid hb
       obtain ⟨⟨mt, v, ma, nt, h1, h2, h3, h4, h5, h6, h7, h8⟩, h9, h10⟩ := h'.out.below hb
       have c2 : w2.cell? ⟨p, 2, none⟩ = some ma := h1.cell 2
       have hlen := Lib.hid (fun ty => h5.len Tryd.underlying61 ty)
       rw [hn'.out] at hlen
       clear h1 h2 h3 h4 h5 h6 h7 h8 h9 h10 hb)
    | (at_len; refine wpList_len_run rfl _ 61 rfl rfl hlen.out ?_))
  go_ret2
  exact ⟨rfl, hb2.out⟩
set_option maxRecDepth 100000 in
set_option maxHeartbeats 2000000 in
theorem ali_ok (p : Nat) (D : Nat → Prop) (T : EM.Tb) (hO : EM.Ok T) (a : Nat) (x : ByteArray) (hx : x.size ≤ 1000) (w : World) (h : Tw w p D T) (hG : ∀ w', Turns D w w' → MTab w' ∧ Tab w') (hc : EM.ck T a x = 0) (hn : T.na < 65536) :
    Calls Tryd.prog 13 #[.pointer (some ⟨p, 0, none⟩), .string x, .int .i64 (a : Nat)] w fun e w' => e = .returned (.tuple #[.string (EM.nam T x), .nilIface]) ∧ Wrote p D { T with A := EM.aset T.A (EM.nam T x) (EM.bs T a x), na := T.na + 1 } w w' := by
  obtain ⟨-, ha, hkd⟩ := EM.ck_zero hc
  have ha' : a ≤ T.P.length := by omega
  have hsy := hO.st_sy hkd
  have hfr := Lib.hid (hO.fresh hsy)
  have hsz := Lib.hid (EM.call_size (s := EM.st T x) (by have := EM.sy_size hsy; omega) (k := T.na + 1) (by omega))
  have hK := Lib.hid (fun w h => check_any p D T a x (by omega) w h)
  rw [hc, er_n] at hK
  have hC := Lib.hid (fun w => stringsClone_any x (by omega) w)
  have hB := Lib.hid (fun w D h => binds_any p D T hO a ha' x hx w h)
  have hS := Lib.hid (fun w D h hM => strip_any p D T x (by omega) w h hM)
  have hX := Lib.hid (fun w hT => text_any (T.na + 1 : Nat) (by omega) (by omega) w hT)
  have hnam : EM.nam T x = EM.st T x ++ EM.sp ++ ⟨(Lib.itoa ((T.na + 1 : Nat) : Int)).toArray⟩ := rfl
  unfold EM.sp at hnam
  have h' := Lib.hid h
  obtain ⟨na, hna⟩ : ∃ na, T.na = na := ⟨_, rfl⟩
  have hna' := Lib.hid hna
  rw [hna] at hX hnam hn hsz
  have hn' := Lib.hid hn
  have hG' := Lib.hid hG
  have hlow := Lib.hid h.low
  obtain ⟨st, hst⟩ : ∃ st, EM.st T x = st := ⟨_, rfl⟩
  obtain ⟨tx, htx⟩ : ∃ tx : ByteArray, ⟨(Lib.itoa ((na + 1 : Nat) : Int)).toArray⟩ = tx := ⟨_, rfl⟩
  obtain ⟨nm, hnm⟩ : ∃ nm, EM.nam T x = nm := ⟨_, rfl⟩
  rw [hst] at hS hnam
  rw [htx] at hX hnam
  have hfr2 : Hid (T.A nm = none) := by rw [← hnm]; unfold EM.nam; exact hfr
  have hsz2 : Hid (nm.size ≤ 100) := by rw [← hnm]; unfold EM.nam; rw [hna]; exact hsz
  rw [hnm] at hnam ⊢
  obtain ⟨b, hb0⟩ : ∃ b, EM.bs T a x = b := ⟨_, rfl⟩
  rw [hb0] at hB ⊢
  rw [show ((na + 1 : Nat) : Int) = (na : Int) + 1 by omega] at hX
  have hw1 : IntKind.i64.wrap ((na : Int) + 1) = (na : Int) + 1 := by rw [IntKind.wrap_i64]; omega
  have hne : ((na : Int) == 65536) = false := by simp; omega
  have hst60 : st.size ≤ 60 := by rw [← hst]; exact (EM.sy_size hsy).2
  have htx21 : tx.size ≤ 21 := by rw [← htx]; exact Lib.itoa_length_le ((na + 1 : Nat) : Int) (by omega) (by omega)
  have hz1 : ¬ 9223372036854775807 < st.size + 1 := by omega
  have hz2 : ¬ 9223372036854775807 < st.size + 1 + tx.size := by omega
  have hnam' := Lib.hid hnam
  clear h hx hc ha ha' hkd hsy hfr hsz hO hna hn hG hst htx hnm hnam hb0 hst60 htx21
  simp only [encB] at hB
  have hbq : ∀ (w : World) (r : Option Nat), (binOp .eql 61 (.map r) (.map none)).run Tryd.prog w = .ok (.bool r.isNone) w := fun w r => run_eql_map_nil w _ _ _ r Tryd.underlying61
  go_enter Tryd.func13, Tryd.ntmps13
  go_upto_if 28 with (first
    | (go_at_call 24
       refine (hK.out _ h'.out).mono ?_
       rintro e w2 ⟨rfl, hb⟩
       have hb2 := Lib.hid hb
       obtain ⟨⟨mt, v, ma, nt, h1, h2, h3, h4, h5, h6, h7, h8⟩, h9, h10⟩ := h'.out.below hb
       obtain ⟨r, rfl⟩ : ∃ r, ma = .map r := by
         rcases h5 with ⟨e, _⟩ | ⟨q, e, _⟩
         · exact ⟨none, e⟩
         · exact ⟨some q, e⟩
       have c2 : w2.cell? ⟨p, 2, none⟩ = some (.map r) := h1.cell 2
       have f2 : w2.frozen? ⟨p, 2, none⟩ = false := h1.free 2
       have hp2 := h1.lt
       have hlen := Lib.hid (fun ty => h5.len Tryd.underlying61 ty)
       rw [hna'.out] at hlen
       have hAll := Lib.hid (And.intro h1 (And.intro h2 (And.intro h3 (And.intro h4 (And.intro h5 (And.intro h6 (And.intro h7 (And.intro h8 (And.intro h9 h10)))))))))
       clear h1 h2 h3 h4 h5 h6 h7 h8 h9 h10 hb)
    | (at_len; refine wpList_len_run rfl _ 61 rfl rfl hlen.out ?_))
  go_cut [] from 29 to 33 (fun wx => AliMid p D T w wx)
  case first =>
    obtain ⟨h1, h2, h3, h4, h5, h6, h7, h8, h9, h10⟩ := hAll.out
    cases r with
    | none =>
      rcases h5 with ⟨-, e1, e2⟩ | ⟨q, e, _⟩
      · have hfin := Lib.hid (AliMid.made hb2.out h1 h2 h3 h4 ⟨e1, e2⟩ (fun q e => (h6 q e).1) h8 h9 hlow.out)
        clear h1 h2 h3 h4 e1 e2 h6 h7 h8 h9 h10 hAll hlen
        have hmm := @run_makeMap Tryd.prog
        go_wp2_with fail
        go_meet
        case rel => exact hfin.out
      · simp at e
    | some q =>
      rcases h5 with ⟨e, _⟩ | ⟨q', e, -, hS5⟩
      · simp at e
      · obtain rfl : q = q' := by simpa using e
        have hfin := Lib.hid (AliMid.had (p := p) (D := D) (T := T) hb2.out (q := q) ⟨mt, v, nt, h1, h2, h3, h4, hS5, fun r e => ⟨(h6 r e).1, fun e2 => (h6 r e).2 (by rw [e2])⟩, h7 q rfl, h8, h9, h10⟩)
        clear h1 h2 h3 h4 hS5 h6 h7 h8 h9 h10 hAll hlen e
        go_wp2_with fail
        go_meet
        case rel => exact hfin.out
  case rest =>
  clear hAll hlen c2 f2 hp2 hbq
  obtain ⟨q, D', hA, hD', hT⟩ := hcut
  obtain ⟨c2, hp2⟩ := hA.cell
  have hA' := Lib.hid hA
  have hG2 := Lib.hid (hG'.out wc hT)
  have hT' := Lib.hid hT
  have hD2 := Lib.hid hD'
  clear hA hT hD' hG' hb2 h'
  go_upto_region 8 with fail
  go_cut [9] from 33 to 45 (fun s9 wx => s9 = .string nm ∧ TwA wx p q D' T ∧ Went wc wx)
  case first =>
    go_region_law
      ((first
        | (rw [if_pos (by rfl)]
           go_simp
           go_at_call 17
           refine (hS.out _ D' (show TwA wc.drew p q D' T from hA'.out).tw (show MTab wc.drew from hG2.out.1)).mono ?_
           rintro e w6 ⟨rfl, hb⟩
           have hb6 := Lib.hid (Went.of_drew hb)
           have hA6 := Lib.hid (hA'.out.below hb6.out)
           have c6 := hA6.out.cell.1
           have hlen6 := Lib.hid (fun ty => hA6.out.len ty)
           rw [hna'.out] at hlen6
           clear hb)
        | (refine step_len_run (by rfl) _ 61 (by rfl) (by rfl) hlen6.out ?_)
        | (rw [if_pos (by rfl)]
           go_simp
           go_at_call 27
           refine (hX.out _ (Tab.on hG2.out.2 hb6.out)).mono ?_
           rintro e w7 ⟨rfl, hb⟩
           have hb7 := Lib.hid (Went.trans hb6.out hb)
           have hA7 := Lib.hid (hA6.out.below hb)
           clear hb)))
    all_goals
      simp only [Act.put, List.setIfInBounds_toArray, List.set_cons_zero, List.set_cons_succ, List.getElem_toArray, List.getElem_cons_succ, List.getElem_cons_zero]
      go_wp2_with fail
      go_meet
      case rel => exact ⟨by rw [hnam'.out], hA7.out, hb7.out⟩
  case rest =>
  obtain ⟨rfl, hA8, hb8⟩ := hcut
  obtain ⟨c8, hp8⟩ := hA8.cell
  have hA9 := Lib.hid hA8
  have T9 := Lib.hid (hT'.out.then (Turns.of_below hb8 D) (fun _ _ h => h))
  clear hA8 hb8 hT' hA' hG2 hS hX hK c2 hp2
  go_wp2_with fail
  go_region_law
    ((first
      | (rw [if_pos (by rfl)]
         go_simp
         go_at_call 22
         refine (hC.out _).mono ?_
         rintro e w6 ⟨rfl, hb⟩
         have hb6 := Lib.hid (Went.of_drew hb)
         have hA6 := Lib.hid (hA9.out.below hb6.out)
         have c6 := hA6.out.cell.1
         clear hb)
      | (rw [if_pos (by rfl)]
         go_simp
         go_at_call 28
         refine (hB.out _ D' hA6.out.tw).mono ?_
         rintro e w7 ⟨rfl, hb⟩
         have hA7 := hA6.out.below hb
         have c7 := hA7.cell.1
         obtain ⟨w8, hput, hA8, hT8⟩ := hA7.put (by have h1 := hna'.out; have h2 := hn'.out; omega) (s := nm) (by have := hsz2.out; omega) hfr2.out b
         simp only [encB] at hput
         have hfin : Wrote p D { T with A := EM.aset T.A nm b, na := T.na + 1 } w w8 := ⟨D', hA8.tw, hD2.out, (T9.out.then (Turns.of_below (Went.trans hb6.out hb) D) (fun _ _ h => h)).then hT8 (fun g hg e => by
           subst e
           obtain ⟨mt, v, nt, -, -, -, -, -, -, hq, -⟩ := hA7
           rcases hD2.out _ hq with h | h
           · exact h
           · omega)⟩
         have hfin' := Lib.hid hfin
         clear hb hA7 hA8 hT8 hfin)))
  all_goals
    go_wp2_with fail
    go_ret2
    exact ⟨rfl, hfin'.out⟩
end Go.Proofs.YtbkjmmeipbbaaaaDoor
