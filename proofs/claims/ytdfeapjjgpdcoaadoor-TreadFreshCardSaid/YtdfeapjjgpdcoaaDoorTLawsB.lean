/- TreadFresh, walked. -/
import Derived.Test.YtdfeapjjgpdcoaaDoorTLaws
namespace Go.Proofs.YtdfeapjjgpdcoaaDoor
open Go.ChangeShapes Go.WideShapes Go.ChangeAt Go.RowKit

/-- six cells of each size, three increments for each allocation -/
def G6 : Geo := ⟨⟨6, 6, 6, 6⟩, 3⟩
theorem G6_ok : G6.ok := by unfold Geo.ok; decide +kernel
/-- a heap of which nothing is reached -/
structure Bare (B : Int) (G : Geo) (H : Hp) (R : Nat → List Int) : Prop where
  inv : Inv B G H R
  none_ : R 12 = []
  regs : ∀ j, 0 ≤ j → j < 12 → gv H.ws j = 12
theorem plc_void (G : Geo) : (G.plc 12).2 = false := plc_kd (by decide +kernel)
theorem plc_nilw (G : Geo) : (G.plc 4).2 = false := plc_kd (by decide +kernel)

/-- the new cell, and what its fields still hold from i on -/
structure Anew (B : Int) (G : Geo) (H : Hp) (R : Nat → List Int) (x f t n : Int) (i : Nat) : Prop where
  bare : Bare B G H R
  ring : x ∈ R (8 + cln n)
  form : mform (gv H.ws x) = f
  tag : mtag (gv H.ws x) = t
  size : msize (gv H.ws x) = n
  rest : ∀ j : Int, i ≤ j → j < n → gv H.ws (x + 3 + j) = blank f

theorem bare_alloc {B : Int} {H : Hp} {R : Nat → List Int} (h : Bare B G6 H R) (hB : B + 3 ≤ 1000000000) {f t n : Int} (f0 : 1 ≤ f) (f1 : f ≤ 2) (t0 : 0 ≤ t) (t1 : t < 16) (n0 : 0 ≤ n) (n1 : n < 128) :
    (H.incs G6 3).fre.at_ (cln n) ≠ 0 ∧ ∃ R', Anew (B + 3) G6 ((H.incs G6 3).alloc f t n) R' ((H.incs G6 3).firstFree (cln n)) f t n 0 := by
  obtain ⟨i, h12, hr⟩ := h
  obtain ⟨R', i3, af, hr3⟩ := rest_three i hB h12 (fun j j0 j1 => by rw [hr j j0 j1]; exact plc_void _)
  have hc := cln_lt n
  have hf : (H.incs G6 3).fre.at_ (cln n) ≠ 0 := by
    rw [af.count i3 hc]
    rcases lt4 hc with e | e | e | e <;> rw [e] <;> decide
  refine ⟨hf, (H.incs G6 3).allocR R' (cln n), ?_⟩
  obtain ⟨hb, hC, hcl, hm, hbl, hd', -⟩ := alloc_words i3 (f := f) (t := t) (n := n) f0 (by omega) t0 t1 n0 n1 (by omega) hf
  have hx := (Geo.extent i.ok hC).1
  refine ⟨⟨inv_alloc i3 f0 (by omega) t0 t1 n0 n1 (by omega) hf, ?_, fun j j0 j1 => ?_⟩, ?_, ?_, ?_, ?_, fun j j0 j1 => hbl j j0 j1⟩
  · rw [Hp.allocR, mvR_far _ (by omega) (by omega)]
    exact af 12 (by omega) (by omega)
  · rw [hd' j (i.ok.register j0 j1) (by omega), hr3 j j0 j1, hr j j0 j1]
  · rw [Hp.allocR, mvR_to _ (by omega)]
    simp
  · rw [hm, mform_with, mshape_form (by omega) (by omega)]
  · rw [hm, mtag_with, mshape_tag (by omega) (by omega) t0 t1]
  · rw [hm, msize_with, mshape_size (by omega) (by omega) t0 t1 n0 n1]

theorem anew_set {B : Int} {H : Hp} {R : Nat → List Int} {x f t n : Int} {i : Nat} (h : Anew B G6 H R x f t n i) (hi : (i : Int) < n) : Anew B G6 (H.setF G6 x i 4) R x f t n (i + 1) := by
  obtain ⟨⟨iv, h12, hr⟩, hx, hf, ht, hs, hrest⟩ := h
  have hc := cln_lt n
  have hold : gv H.ws (x + 3 + i) = blank f := hrest i (by omega) hi
  obtain ⟨-, e2, e3⟩ := setF_plain (v := 4) iv (k := 8 + cln n) (by omega) (by omega) hx (j := (i : Int)) (by omega) (by omega) (by
    rw [hf, hold]
    by_cases e : f = 2
    · exact .inl e
    · refine .inr ?_
      rw [blank, if_neg e]
      exact plc_void _) (plc_nilw _)
  obtain ⟨hin, hda, -⟩ := iv.fields (k := 8 + cln n) (by omega) (by omega) hx (j := (i : Int)) (by omega) (by omega)
  have i2 := inv_setF (v := 4) iv hda (by omega) (by omega)
  rw [e2] at i2
  have hC := iv.rg.place _ (by omega) x hx
  have hx51 := (Geo.extent iv.ok hC).1
  refine ⟨⟨i2, h12, fun j j0 j1 => ?_⟩, hx, ?_, ?_, ?_, fun j j0 j1 => ?_⟩
  · rw [e3, if_neg (by omega)]
    exact hr j j0 j1
  · rw [e3, if_neg (by omega)]
    exact hf
  · rw [e3, if_neg (by omega)]
    exact ht
  · rw [e3, if_neg (by omega)]
    exact hs
  · rw [e3, if_neg (by omega)]
    exact hrest j (by omega) j1

theorem index_blank (f : Int) (f0 : 1 ≤ f) (f1 : f ≤ 2) (w : World) :
    (Instr.index 67 (.agg #[.int .u64 0, .int .u64 12, .int .u64 0]) (.int .i64 f)).run Tryd.prog w = .ok (.int .u64 (blank f)) w := by
  rcases (show f = 1 ∨ f = 2 by omega) with rfl | rfl <;> kernel_rfl

set_option maxHeartbeats 2000000 in
set_option maxRecDepth 100000 in
theorem treadFresh_round (f t n : Int) (f0 : 1 ≤ f) (f1 : f ≤ 2) (t0 : 0 ≤ t) (t1 : t < 16) (n0 : 0 ≤ n) (n1 : n < 128) (form tag num turns : Int)
    (hf : 1 + wrap64 ((IntKind.u64.wrap form).tmod 2) = f) (ht : wrap64 ((IntKind.u64.wrap tag).tmod 16) = t) (hn : wrap64 ((IntKind.u64.wrap num).tmod 128) = n) (w : World) (hT : Tab w) :
    Calls Tryd.prog 6 #[.int .i64 form, .int .i64 tag, .int .i64 num, .int .i64 turns] w fun e w' => e = .returned (.bool true) ∧ Below w.heap.size w w' := by
  have NW := Lib.hid (new_yes G6 G6_ok w hT)
  have AW := Lib.hid (fun w ht => awake_any w ht)
  have E0 : Hid (G6.n.a = 6 ∧ G6.n.b = 6 ∧ G6.n.c = 6 ∧ G6.n.d = 6 ∧ G6.k = 3) := ⟨rfl, rfl, rfl, rfl, rfl⟩
  obtain ⟨ea, eb, ec, ed, ek⟩ := E0.out
  rw [ea, eb, ec, ed, ek] at NW
  clear ea eb ec ed ek E0 hT
  have NL := Lib.hid (fun w => nil_any w)
  have VD := Lib.hid (fun w => void_any w)
  have hU := u_mod turns 40 (by omega) (by omega)
  obtain ⟨T, hT⟩ : ∃ T : Nat, wrap64 ((IntKind.u64.wrap turns).tmod 40) = T := by
    rw [hU]
    exact ⟨(turns % 18446744073709551616 % 40).toNat, by omega⟩
  have hT40 : (T : Int) < 40 := by omega
  clear hU
  have B0 : Hid (Bare 0 G6 G6.fresh (G6.layR 4 0)) := ⟨(inv_fresh G6_ok).1, by rfl, (inv_fresh G6_ok).2⟩
  go_enter Tryd.func6, Tryd.ntmps6
  go_wp2_with (first
    | (go_at_call 25; refine NW.out.mono ?_; rintro e w1 ⟨q, p, b, rfl, hs1, hb1, hq, hp, hbb⟩)
    | (go_at_call 7; refine (AW.out _ hs1.tab).mono ?_; rintro e w2 ⟨rfl, hb2⟩))
  have hs2 : Tr w2 q p b G6 G6.fresh := by
    have := hs1.lt
    exact hs1.turns (Turns.of_below hb2 (fun _ => False)) (fun h => h) (fun h => h) (fun h => h) (fun h => h)
  have hb3 := below_then hb1 hb2
  clear hs1 hb1 hb2 NW AW
  rw [hT]
  clear hT
  go_loopw [54] (fun v wr => ∃ (c : Nat) (H : Hp) (R : Nat → List Int), c ≤ 1 + T ∧ v = .int .i64 c ∧ Bare (3 * c) G6 H R ∧ Tr wr q p b G6 H ∧ Below w.heap.size w wr) (fun v _ => 1 + T - (intOf v).toNat)
  case atStart => exact ⟨0, _, _, by omega, rfl, B0.out, hs2, hb3⟩
  case round =>
    obtain ⟨c, H, R, hc, rfl, hi, hs, hb⟩ := hrel
    by_cases hcT : c < 1 + T
    · obtain ⟨hf, R2, h2⟩ := bare_alloc hi (by omega) f0 f1 t0 t1 n0 n1
      have AL := Lib.hid (alloc_yes hi.inv f t n f0 (by omega) t0 t1 n0 n1 (by omega) (show 3 * (c : Int) + G6.k ≤ 1000000000 by show 3 * (c : Int) + 3 ≤ 1000000000; omega) hf wr hs)
      have ek : Hid (G6.k.toNat = 3) := rfl
      rw [ek.out] at AL
      have A2 := Lib.hid h2
      clear hf h2 hi hs ek
      generalize (H.incs G6 3).alloc f t n = H2 at *
      generalize (H.incs G6 3).firstFree (cln n) = x at *
      have SH : Hid (∀ w1, Tr w1 q p b G6 H2 → Calls Tryd.prog 17 #[.pointer (some ⟨q, 0, none⟩), .int .u64 (8 * x + 1)] w1 fun e w' => e = .returned (.tuple #[.int .i64 f, .int .i64 t, .int .i64 n, .nilIface]) ∧ Tr w' q p b G6 H2 ∧ Turns (Own3 q p b) w1 w') := fun w1 h1 => by
        have hC := A2.out.bare.inv.rg.place _ (by have := cln_lt n; omega) x A2.out.ring
        have := Shape_yes A2.out.bare.inv x hC w1 h1
        rw [A2.out.form, A2.out.tag, A2.out.size] at this
        exact this
      have GS : Hid (∀ (i : Nat) (H : Hp) (R : Nat → List Int) w1, Anew (3 * c + 3) G6 H R x f t n i → (i : Int) < n → Tr w1 q p b G6 H → Calls Tryd.prog 15 #[.pointer (some ⟨q, 0, none⟩), .int .u64 (8 * x + 1), .int .i64 i] w1 fun e w' => e = .returned (.tuple #[.int .u64 (blank f), .nilIface]) ∧ Tr w' q p b G6 H ∧ Turns (Own3 q p b) w1 w') := fun i H R w1 h hi h1 => by
        have := Get_yes h.bare.inv x (k := 8 + cln n) (by omega) (by have := cln_lt n; omega) h.ring (i : Int) (by omega) (by rw [h.size]; exact hi) w1 h1
        rw [h.form, if_neg (by omega), h.rest i (by omega) hi] at this
        exact this
      have SS : Hid (∀ (i : Nat) (H : Hp) (R : Nat → List Int) w1, Anew (3 * c + 3) G6 H R x f t n i → (i : Int) < n → Tr w1 q p b G6 H → Calls Tryd.prog 19 #[.pointer (some ⟨q, 0, none⟩), .int .u64 (8 * x + 1), .int .i64 i, .int .u64 4] w1 fun e w' => e = .returned .nilIface ∧ Tr w' q p b G6 (H.setF G6 x i 4) ∧ Turns (Own3 q p b) w1 w') := fun i H R w1 h hi h1 =>
        Set_yes h.bare.inv x (k := 8 + cln n) (by omega) (by have := cln_lt n; omega) h.ring (i : Int) 4 (by omega) (by rw [h.size]; exact hi) (by omega) (by omega) (by
          rw [h.form]
          rcases (show f = 1 ∨ f = 2 by omega) with e | e
          · exact .inr (.inl ⟨e, may_plain (by decide +kernel)⟩)
          · exact .inl e) w1 h1
      have IB := fun w => index_blank f f0 f1 w
      generalize blank f = z at *
      go_wp2_with (first
        | (go_at_call 14; refine AL.out.mono ?_; rintro e w3 ⟨rfl, hs3, ht3⟩)
        | (go_at_call 17; refine (SH.out _ hs3).mono ?_; rintro e w4 ⟨rfl, hs4, ht4⟩))
      have hb4 := hb.trans ((ht3.trans ht4).below hb.size (fun k hk => by unfold Own3 at hk; omega))
      clear hs3 ht3 ht4 hb AL SH
      go_loopw [92] (fun v wr => ∃ (i : Nat) (H : Hp) (R : Nat → List Int), (i : Int) ≤ n ∧ v = .int .i64 i ∧ Anew (3 * c + 3) G6 H R x f t n i ∧ Tr wr q p b G6 H ∧ Below w.heap.size w wr) (fun v _ => n.toNat - (intOf v).toNat)
      case atStart => exact ⟨0, _, _, by omega, rfl, A2.out, hs4, hb4⟩
      case round =>
        obtain ⟨i, H3, R3, hi, rfl, h3, hs, hb⟩ := hrel
        by_cases hin : (i : Int) < n
        · have G3 := Lib.hid (GS.out i H3 R3 wr h3 hin hs)
          have S3 := Lib.hid (fun w1 h1 => SS.out i H3 R3 w1 h3 hin h1)
          have A3 := Lib.hid (anew_set h3 hin)
          clear h3 hs GS SS A2
          generalize H3.setF G6 x i 4 = H4 at *
          generalize 8 * x + 1 = y at *
          go_wp2_with (first
            | (go_at_call 15; refine G3.out.mono ?_; rintro e w5 ⟨rfl, hs5, ht5⟩)
            | (go_at_call 28; refine (VD.out _).mono ?_; rintro e w' ⟨rfl, rfl⟩)
            | (go_at_call 27; refine (NL.out _).mono ?_; rintro e w' ⟨rfl, rfl⟩)
            | (go_at_call 19; refine (S3.out _ hs5).mono ?_; rintro e w6 ⟨rfl, hs6, ht6⟩))
          go_roundw
          case rel => exact ⟨i + 1, H4, R3, by omega, by go_num, A3.out, hs6, hb.trans ((ht5.trans ht6).below hb.size (fun k hk => by unfold Own3 at hk; omega))⟩
          case measure => simp [intOf]; omega
        · go_wp2_with fail
          go_roundw
          case rel => exact ⟨c + 1, H3, R3, by omega, by go_num, (by have := h3.bare; rw [show 3 * ((c + 1 : Nat) : Int) = 3 * c + 3 by omega]; exact this), hs, hb⟩
          case measure => simp [intOf]; omega
    · go_wp2_with fail
      go_ret
      exact ⟨rfl, hb⟩

theorem treadFresh_walk (form tag num turns : Int) (w : World) (ht : Tab w) :
    Calls Tryd.prog 6 #[.int .i64 form, .int .i64 tag, .int .i64 num, .int .i64 turns] w fun e w' => e = .returned (.bool true) ∧ Below w.heap.size w w' :=
  treadFresh_round (1 + form % 18446744073709551616 % 2) (tag % 18446744073709551616 % 16) (num % 18446744073709551616 % 128) (by omega) (by omega) (by omega) (by omega) (by omega) (by omega) form tag num turns
    (by rw [u_mod form 2 (by omega) (by omega)]) (u_mod tag 16 (by omega) (by omega)) (u_mod num 128 (by omega) (by omega)) w ht
end Go.Proofs.YtdfeapjjgpdcoaaDoor
