/- A field is set. -/
import Derived.Test.YtagedholocgahaaGreatDoorTHeapK
namespace Go.Proofs.YtagedholocgahaaGreatDoor
open Go.ChangeShapes Go.WideShapes Go.ChangeAt Go.RowKit

section
variable {B : Int} {G : Geo} {H : Hp} {R : Nat → List Int} {q p b : Nat}

theorem maySet_any (i : Inv B G H R) (m j old v : Int) (m0 : 0 ≤ m) (m1 : m < 18446744073709551616) (h0 : 0 ≤ v) (h1 : v < 18446744073709551616)
    (hok : mform m = 2 ∨ (mform m = 1 ∧ G.may v = true) ∨ (mform m = 3 ∧ G.may v = true ∧ (j = 0 → old = 12))) (w : World) (h : Tr w q p b G H) :
    Calls Tryz.prog 94 #[.pointer (some ⟨q, 0, none⟩), .int .u64 m, .int .i64 j, .int .u64 old, .int .u64 v] w fun e w' => e = .returned (.bool true) ∧ ∃ k, w' = w.drewN k := by
  have FM := Lib.hid (fun w => form_any m m0 m1 w)
  have VV := Lib.hid (Value_any i v h0 h1 w h)
  have VD := Lib.hid (fun w => void_any w)
  clear h i m0 m1
  rcases hok with hf | ⟨hf, hm⟩ | ⟨hf, hm, ho⟩
  · rw [hf] at FM
    clear hf
    go_enter Tryz.func94, Tryz.ntmps94
    go_wp2_with (go_at_call 58; refine (FM.out _).mono ?_; rintro e w' ⟨rfl, rfl⟩)
    go_ret
    exact ⟨rfl, 0, rfl⟩
  · rw [hf] at FM
    rw [hm] at VV
    clear hf hm
    go_enter Tryz.func94, Tryz.ntmps94
    go_wp2_with (first
      | (go_at_call 58; refine (FM.out _).mono ?_; rintro e w' ⟨rfl, rfl⟩)
      | (go_at_call 66; refine VV.out.mono ?_; rintro e w' ⟨rfl, k, rfl⟩))
    go_ret
    exact ⟨rfl, _, rfl⟩
  · rw [hf] at FM
    rw [hm] at VV
    clear hf hm
    by_cases hj : j = 0
    · obtain rfl := ho hj
      subst hj
      clear ho
      go_enter Tryz.func94, Tryz.ntmps94
      go_wp2_with (first
        | (go_at_call 58; refine (FM.out _).mono ?_; rintro e w' ⟨rfl, rfl⟩)
        | (go_at_call 45; refine (VD.out _).mono ?_; rintro e w' ⟨rfl, rfl⟩)
        | (go_at_call 66; refine VV.out.mono ?_; rintro e w' ⟨rfl, k, rfl⟩))
      go_ret
      exact ⟨rfl, _, rfl⟩
    · have hjb : (j == 0) = false := by simpa using hj
      clear hj ho
      go_enter Tryz.func94, Tryz.ntmps94
      go_wp2_with (first
        | (go_at_call 58; refine (FM.out _).mono ?_; rintro e w' ⟨rfl, rfl⟩)
        | (go_at_call 45; refine (VD.out _).mono ?_; rintro e w' ⟨rfl, rfl⟩)
        | (go_at_call 66; refine VV.out.mono ?_; rintro e w' ⟨rfl, k, rfl⟩))
      go_ret
      exact ⟨rfl, _, rfl⟩

theorem isBlack_of (H : Hp) {H' : Hp} (hc : H'.cyc = H.cyc) (hm : H'.mrk = H.mrk) (m : Int) : H'.isBlack m = H.isBlack m := by
  unfold Hp.isBlack Hp.next
  rw [hc, hm]

theorem guard_any (i : Inv B G H R) (m old v : Int) (m0 : 0 ≤ m) (m1 : m < 18446744073709551616) (o0 : 0 ≤ old) (o1 : old < 18446744073709551616) (h0 : 0 ≤ v) (h1 : v < 18446744073709551616)
    (hf : 1 ≤ mform m ∧ mform m ≤ 3) (w : World) (h : Tr w q p b G H) :
    Calls Tryz.prog 95 #[.pointer (some ⟨q, 0, none⟩), .int .u64 m, .int .u64 old, .int .u64 v] w fun e w' => e = .returned (.tuple #[]) ∧ Tr w' q p b G (H.guard G m old v) ∧ Turns (Own3 q p b) w w' := by
  have FM := Lib.hid (fun w => form_any m m0 m1 w)
  obtain ⟨i1, d1, -⟩ := inv_shade i o0 o1
  obtain ⟨-, -, -, -, e1, e2, -⟩ := shade_facts i o0 o1
  have S1 := Lib.hid (shade_any i old o0 o1 w h)
  have S2 := Lib.hid (fun w1 (h1' : Tr w1 q p b G (H.shade G old)) => shade_any i1 v h0 h1 w1 h1')
  have B2 := Lib.hid (fun w1 (h1' : Tr w1 q p b G (H.shade G old)) => isBlack_of H e2 e1 m ▸ isBlack_any m m0 m1 w1 h1' i1.inTime)
  have S3 := Lib.hid (shade_any i v h0 h1 w h)
  have B3 := Lib.hid (isBlack_any m m0 m1 w h i.inTime)
  have hf' : mform m = 1 ∨ mform m = 2 ∨ mform m = 3 := by omega
  have E : Hid (H.guard G m old v = if mform m = 1 then (if H.isBlack m then (H.shade G old).shade G v else H.shade G old)
    else if mform m = 3 then (if H.isBlack m then H.shade G v else H) else H) := rfl
  have hs0 := Lib.hid h
  clear h i i1 d1 e1 e2 m0 m1 o0 o1 hf
  generalize H.guard G m old v = r at *
  generalize (H.shade G old).shade G v = H2 at *
  generalize H.shade G old = H1 at *
  generalize H.shade G v = H3 at *
  rcases hf' with hf | hf | hf
  · rw [hf] at FM E
    clear hf
    cases hb : H.isBlack m
    · rw [hb] at B2 E
      clear hb
      obtain rfl : r = H1 := E.out
      clear E
      go_enter Tryz.func95, Tryz.ntmps95
      go_wp2_with (first
        | (go_at_call 58; refine (FM.out _).mono ?_; rintro e w' ⟨rfl, rfl⟩)
        | (go_at_call 59; refine S1.out.mono ?_; rintro e w2 ⟨rfl, hs2, ht2⟩)
        | (go_at_call 115; refine (B2.out _ hs2).mono ?_; rintro e w' ⟨rfl, rfl⟩))
      go_end0
      exact ⟨rfl, hs2, ht2⟩
    · rw [hb] at B2 E
      clear hb
      obtain rfl : r = H2 := E.out
      clear E
      go_enter Tryz.func95, Tryz.ntmps95
      go_wp2_with (first
        | (go_at_call 58; refine (FM.out _).mono ?_; rintro e w' ⟨rfl, rfl⟩)
        | (go_at_call 59; (with_reducible refine S1.out.mono ?_); rintro e w2 ⟨rfl, hs2, ht2⟩)
        | (go_at_call 115; refine (B2.out _ hs2).mono ?_; rintro e w' ⟨rfl, rfl⟩)
        | (go_at_call 59; (with_reducible refine (S2.out _ hs2).mono ?_); rintro e w3 ⟨rfl, hs3, ht3⟩))
      go_end0
      exact ⟨rfl, hs3, ht2.trans ht3⟩
  · rw [hf] at FM E
    clear hf
    obtain rfl : r = H := E.out
    clear E
    go_enter Tryz.func95, Tryz.ntmps95
    go_wp2_with (first
      | (go_at_call 58; refine (FM.out _).mono ?_; rintro e w' ⟨rfl, rfl⟩))
    go_end0
    exact ⟨rfl, hs0.out, Turns.refl _ _⟩
  · rw [hf] at FM E
    clear hf
    cases hb : H.isBlack m
    · rw [hb] at B3 E
      clear hb
      obtain rfl : r = H := E.out
      clear E
      go_enter Tryz.func95, Tryz.ntmps95
      go_wp2_with (first
        | (go_at_call 58; refine (FM.out _).mono ?_; rintro e w' ⟨rfl, rfl⟩)
        | (go_at_call 115; refine B3.out.mono ?_; rintro e w' ⟨rfl, rfl⟩))
      go_end0
      exact ⟨rfl, hs0.out, Turns.refl _ _⟩
    · rw [hb] at B3 E
      clear hb
      obtain rfl : r = H3 := E.out
      clear E
      go_enter Tryz.func95, Tryz.ntmps95
      go_wp2_with (first
        | (go_at_call 58; refine (FM.out _).mono ?_; rintro e w' ⟨rfl, rfl⟩)
        | (go_at_call 115; refine B3.out.mono ?_; rintro e w' ⟨rfl, rfl⟩)
        | (go_at_call 59; refine S3.out.mono ?_; rintro e w2 ⟨rfl, hs2, ht2⟩))
      go_end0
      exact ⟨rfl, hs2, ht2⟩

theorem Set_nil (v j u : Int) (w : World) :
    Calls Tryz.prog 53 #[.pointer none, .int .u64 v, .int .i64 j, .int .u64 u] w fun e w' => e = .returned (.iface 86 (.int .i64 1)) ∧ w = w' := by
  go_enter Tryz.func53, Tryz.ntmps53
  go_wp2_with (go_at_call 56; refine (field_nil _ _ _).mono ?_; rintro e w' ⟨rfl, rfl⟩)
  go_ret
  exact ⟨rfl, rfl⟩

theorem Set_yes (i : Inv B G H R) (x : Int) {k : Nat} (h4 : 4 ≤ k) (hk : k < 13) (hx : x ∈ R k) (j v : Int) (j0 : 0 ≤ j) (j1 : j < msize (gv H.ws x)) (h0 : 0 ≤ v) (h1 : v < 18446744073709551616)
    (hok : mform (gv H.ws x) = 2 ∨ (mform (gv H.ws x) = 1 ∧ G.may v = true) ∨ (mform (gv H.ws x) = 3 ∧ G.may v = true ∧ (j = 0 → gv H.ws (x + 3 + j) = 12))) (w : World) (h : Tr w q p b G H) :
    Calls Tryz.prog 53 #[.pointer (some ⟨q, 0, none⟩), .int .u64 (8 * x + 1), .int .i64 j, .int .u64 v] w fun e w' => e = .returned .nilIface ∧ Tr w' q p b G (H.setF G x j v) ∧ Turns (Own3 q p b) w w' := by
  have hC := i.rg.place k hk x hx
  have hr := i.wrd x
  have ho := i.wrd (x + 3 + j)
  have hsh := i.shp k x h4 hk hx
  have FF := Lib.hid (field_yes i x hC j j0 j1 w h)
  have GG := Lib.hid (fun w1 (h1 : Tr w1 q p b G H) => hget_any (x + 3 + j) w1 h1 (i.fields h4 hk hx j0 j1).1)
  have MS := Lib.hid (fun w1 (h1' : Tr w1 q p b G H) => maySet_any i (gv H.ws x) j (gv H.ws (x + 3 + j)) v hr.1 hr.2 h0 h1 hok w1 h1')
  have GD := Lib.hid (fun w1 (h1' : Tr w1 q p b G H) => guard_any i (gv H.ws x) (gv H.ws (x + 3 + j)) v hr.1 hr.2 ho.1 ho.2 h0 h1 ⟨hsh.1, hsh.2.1⟩ w1 h1')
  obtain ⟨i1, d1⟩ := inv_guard i (gv H.ws x) ho.1 ho.2 h0 h1
  have hin : inside (H.guard G (gv H.ws x) (gv H.ws (x + 3 + j)) v).ws.length (x + 3 + j) = true := by
    rw [d1.len]
    exact (i.fields h4 hk hx j0 j1).1
  have ST := Lib.hid (fun w1 (h1' : Tr w1 q p b G (H.guard G (gv H.ws x) (gv H.ws (x + 3 + j)) v)) => hset_any (x + 3 + j) v w1 h1' hin)
  have E : Hid (({ H.guard G (gv H.ws x) (gv H.ws (x + 3 + j)) v with ws := sv (H.guard G (gv H.ws x) (gv H.ws (x + 3 + j)) v).ws (x + 3 + j) v } : Hp) = H.setF G x j v) := rfl
  clear h i hr ho hsh hC hx j0 j1 i1 d1 hin hok
  generalize H.setF G x j v = H2 at *
  generalize H.guard G (gv H.ws x) (gv H.ws (x + 3 + j)) v = H1 at *
  generalize gv H.ws (x + 3 + j) = f at *
  generalize x + 3 + j = at_ at *
  generalize gv H.ws x = m at *
  generalize 8 * x + 1 = c at *
  go_enter Tryz.func53, Tryz.ntmps53
  go_wp2_with (first
    | (go_at_call 56; refine FF.out.mono ?_; rintro e w2 ⟨rfl, hs2, ht2⟩)
    | (go_at_call 57; refine (GG.out _ hs2).mono ?_; rintro e w3 ⟨rfl, hs3, ht3⟩)
    | (go_at_call 94; refine (MS.out _ hs3).mono ?_; rintro e w' ⟨rfl, k4, rfl⟩)
    | (go_at_call 95; refine (GD.out _ (hs3.drewN k4)).mono ?_; rintro e w5 ⟨rfl, hs5, ht5⟩)
    | (go_at_call 96; refine (ST.out _ hs5).mono ?_; rintro e w6 ⟨rfl, hs6, ht6⟩))
  go_ret
  exact ⟨rfl, by rw [← E.out]; exact hs6, (ht2.trans (own_of_p ht3)).trans ((own_drewN _ _).trans (ht5.trans (own_of_pb ht6)))⟩
end
end Go.Proofs.YtagedholocgahaaGreatDoor
