/- The laws' awake: answers that the document fixes; an error's kind as a number. -/
import Derived.Test.YtbkjmmeipbbaaaaDoorEnvTop
import Derived.Test.YtbkjmmeipbbaaaaDoorEnvAli
import Derived.Test.YtbkjmmeipbbaaaaDoorEnvCallsE
import Derived.Test.YtbkjmmeipbbaaaaDoorErrIs
namespace Go.Proofs.YtbkjmmeipbbaaaaDoor
open Go.ChangeShapes Go.WideShapes Go.ChangeAt Go.RowKit

theorem ali_any (p : Nat) (D : Nat → Prop) (T : EM.Tb) (hO : EM.Ok T) (a : Int) (x : ByteArray) (hx : x.size ≤ 1000) (w : World) (h : Tw w p D T) (hG : ∀ w', Turns D w w' → MTab w' ∧ Tab w') :
    Calls Tryd.prog 13 #[.pointer (some ⟨p, 0, none⟩), .string x, .int .i64 a] w fun e w' => e = .returned (.tuple #[.string (if EM.ae T a x = 0 then EM.nam T x else ByteArray.empty), er (EM.ae T a x)]) ∧ Wrote p D (EM.ali T a x) w w' := by
  by_cases hc : EM.ck T a x = 0
  · by_cases hl : 65536 ≤ T.na
    · have e : EM.ae T a x = 14 := by unfold EM.ae; rw [hc, if_neg (by decide), if_pos hl]
      unfold EM.ali
      rw [e, if_neg (by decide), if_neg (by decide)]
      exact (ali_full p D T a x hx w h hc (by have := hO.na; omega)).mono fun e w' ⟨e1, e2⟩ => ⟨e1, Wrote.same h e2⟩
    · have e : EM.ae T a x = 0 := by unfold EM.ae; rw [hc, if_neg (by decide), if_neg hl]
      unfold EM.ali
      rw [e, if_pos rfl, if_pos rfl, er_n]
      obtain ⟨h0, h1, -⟩ := EM.ck_zero hc
      obtain ⟨a, rfl⟩ := Int.eq_ofNat_of_zero_le h0
      exact ali_ok p D T hO a x hx w h hG hc (by omega)
  · have e : EM.ae T a x = EM.ck T a x := by unfold EM.ae; rw [if_pos hc]
    unfold EM.ali
    rw [e, if_neg hc, if_neg hc]
    exact (ali_bad p D T a x hx w h hc).mono fun e w' ⟨e1, e2⟩ => ⟨e1, Wrote.same h e2⟩
theorem find_any (p : Nat) (D : Nat → Prop) (T : EM.Tb) (hO : EM.Ok T) (a : Int) (x : ByteArray) (hx : x.size ≤ 1000) (w : World) (h : Tw w p D T) :
    Calls Tryd.prog 15 #[.pointer (some ⟨p, 0, none⟩), .int .i64 a, .string x] w fun e w' => e = .returned (.tuple #[encM.V (EM.fm T a x), er (EM.ck T a x)]) ∧ Went w w' := by
  unfold EM.fm
  by_cases hc : EM.ck T a x = 0
  · rw [hc, if_pos rfl, er_n]
    obtain ⟨h0, h1, -⟩ := EM.ck_zero hc
    obtain ⟨a, rfl⟩ := Int.eq_ofNat_of_zero_le h0
    exact find_ok p D T hO a x hx w h hc
  · rw [if_neg hc]
    exact find_bad p D T a x hx w h hc

/-- a table that the law has made: all of it in blocks from W on -/
def Ew (W w : World) (p : Nat) (T : EM.Tb) : Prop := Below W.heap.size W w ∧ ∃ D, Tw w p D T ∧ ∀ g, D g → W.heap.size ≤ g
section
variable {W w w' : World} {p : Nat} {D : Nat → Prop} {T : EM.Tb}
theorem tabs_on (hM : MTab W) (hT : Tab W) (hb : Below W.heap.size W w) (hD : ∀ g, D g → W.heap.size ≤ g) : ∀ w', Turns D w w' → MTab w' ∧ Tab w' := fun w' k => by
  have h : Went W w' := hb.trans (k.below hb.size hD)
  exact ⟨hM.on h, hT.on h⟩
theorem Wrote.ew {T' : EM.Tb} (hb : Below W.heap.size W w) (hD : ∀ g, D g → W.heap.size ≤ g) (h : Wrote p D T' w w') : Ew W w' p T' := by
  obtain ⟨D', h1, h2, h3⟩ := h
  refine ⟨hb.trans (h3.below hb.size hD), D', h1, fun g hg => ?_⟩
  rcases h2 g hg with h | h
  · exact hD g h
  · exact Nat.le_trans hb.size h
theorem Ew.went (h : Ew W w p T) (k : Went w w') : Ew W w' p T := by
  obtain ⟨hb, D, h1, h2⟩ := h
  exact ⟨hb.trans (Below.mono k hb.size), D, h1.below k, h2⟩
theorem ext_ew (h : Ew W w p T) (hO : EM.Ok T) (a : Int) (x : ByteArray) (hx : x.size ≤ 1000) (k n : Int) :
    Calls Tryd.prog 11 #[.pointer (some ⟨p, 0, none⟩), .int .i64 a, .string x, .agg #[.int .i64 k, .int .i64 n]] w fun e w' => e = .returned (.tuple #[.int .i64 (if EM.xe T a x k = 0 then (T.P.length : Int) + 1 else 0), er (EM.xe T a x k)]) ∧ Ew W w' p (EM.ext T a x k n) := by
  obtain ⟨hb, D, h1, h2⟩ := h
  exact (ext_any p D T hO a x hx k n w h1).mono fun e w' ⟨e1, e2⟩ => ⟨e1, e2.ew hb h2⟩
theorem ali_ew (h : Ew W w p T) (hM : MTab W) (hT : Tab W) (hO : EM.Ok T) (a : Int) (x : ByteArray) (hx : x.size ≤ 1000) :
    Calls Tryd.prog 13 #[.pointer (some ⟨p, 0, none⟩), .string x, .int .i64 a] w fun e w' => e = .returned (.tuple #[.string (if EM.ae T a x = 0 then EM.nam T x else ByteArray.empty), er (EM.ae T a x)]) ∧ Ew W w' p (EM.ali T a x) := by
  obtain ⟨hb, D, h1, h2⟩ := h
  exact (ali_any p D T hO a x hx w h1 (tabs_on hM hT hb h2)).mono fun e w' ⟨e1, e2⟩ => ⟨e1, e2.ew hb h2⟩
theorem find_ew (h : Ew W w p T) (hO : EM.Ok T) (a : Int) (x : ByteArray) (hx : x.size ≤ 1000) :
    Calls Tryd.prog 15 #[.pointer (some ⟨p, 0, none⟩), .int .i64 a, .string x] w fun e w' => e = .returned (.tuple #[encM.V (EM.fm T a x), er (EM.ck T a x)]) ∧ Ew W w' p T ∧ Went w w' := by
  have h0 := h
  obtain ⟨hb, D, h1, h2⟩ := h
  exact (find_any p D T hO a x hx w h1).mono fun e w' ⟨e1, e2⟩ => ⟨e1, h0.went e2, e2⟩
theorem strip_ew (h : Ew W w p T) (hM : MTab W) (x : ByteArray) (hx : x.size ≤ 1000) :
    Calls Tryd.prog 17 #[.pointer (some ⟨p, 0, none⟩), .string x] w fun e w' => e = .returned (.string (EM.st T x)) ∧ Ew W w' p T ∧ Went w w' := by
  have h0 := h
  obtain ⟨hb, D, h1, h2⟩ := h
  exact (strip_any p D T x (by omega) w h1 (hM.on hb)).mono fun e w' ⟨e1, e2⟩ => ⟨e1, h0.went e2, e2⟩
end
theorem tb0_ok : EM.Ok tb0 := ⟨fun i p h => by simp [tb0] at h, by simp [tb0], by simp [tb0], fun x b h => by simp [tb0] at h, fun p h => by simp [tb0] at h⟩
theorem new_ew (W : World) : Ew W (W.alloc (.cells #[.map none, .slice none 0 0, .map none] 63)) W.heap.size tb0 :=
  ⟨(Below.refl _ W).alloc (Nat.le_refl _) _, _, Tw.made W, fun g hg => by subst hg; exact Nat.le_refl _⟩

/-! The tables of awake. -/
def nX : ByteArray := ⟨#[120]⟩
def nX1 : ByteArray := ⟨#[120, 32, 49]⟩
def ta1 : EM.Tb := EM.ext tb0 0 nX 1 1
def ta2 : EM.Tb := EM.ali ta1 1 nX
def ta3 : EM.Tb := EM.ext ta2 0 nX 1 2
theorem syX : EM.sy nX = true := by decide +kernel
theorem syX1 : EM.sy nX1 = false := by decide +kernel
theorem itoa1 : Lib.itoa 1 = [49] := by simp [Lib.itoa, Lib.decDigits]
theorem a_x1 : EM.xe tb0 0 nX 1 = 0 := by decide +kernel
theorem ta1_eq : ta1 = ⟨fun _ => none, 0, [⟨0, nX, 1, 1⟩], fun _ => none, 0⟩ := by unfold ta1 EM.ext; rw [a_x1]; rfl
theorem a_a1 : EM.ae ta1 1 nX = 0 := by rw [ta1_eq]; decide +kernel
theorem a_nam : EM.nam ta1 nX = nX1 := by
  have e : EM.st ta1 nX = nX := by unfold EM.st EM.kd; rw [syX]; rfl
  unfold EM.nam EM.call
  rw [e, show (((ta1.na + 1 : Nat)) : Int) = 1 by rw [ta1_eq]; rfl, itoa1]
  rfl
theorem ta2_eq : ta2 = ⟨fun _ => none, 0, [⟨0, nX, 1, 1⟩], EM.aset (fun _ => none) nX1 ⟨1, nX⟩, 1⟩ := by
  unfold ta2 EM.ali
  rw [a_a1, if_pos rfl, a_nam, ta1_eq]
  have e : EM.bs ⟨fun _ => none, 0, [⟨0, nX, 1, 1⟩], fun _ => none, 0⟩ (Int.toNat 1) nX = ⟨1, nX⟩ := by decide +kernel
  rw [e]
theorem a_x3 : EM.xe ta2 0 nX 1 = 0 := by rw [ta2_eq]; decide +kernel
theorem ta3_eq : ta3 = ⟨fun _ => none, 0, [⟨0, nX, 1, 1⟩, ⟨0, nX, 1, 2⟩], EM.aset (fun _ => none) nX1 ⟨1, nX⟩, 1⟩ := by unfold ta3 EM.ext; rw [a_x3]; rw [ta2_eq]; rfl
theorem a_c1 : EM.ck ta3 2 nX1 = 0 := by rw [ta3_eq]; decide +kernel
theorem a_c2 : EM.ck ta3 2 nX = 0 := by rw [ta3_eq]; decide +kernel
theorem a_c3 : EM.ck ta3 0 nX = 0 := by rw [ta3_eq]; decide +kernel
theorem a_c4 : EM.ck ta3 3 nX = 3 := by rw [ta3_eq]; decide +kernel
theorem a_f1 : EM.fm ta3 2 nX1 = (1, 1) := by rw [ta3_eq]; decide +kernel
theorem a_f2 : EM.fm ta3 2 nX = (1, 2) := by rw [ta3_eq]; decide +kernel
theorem a_f3 : EM.fm ta3 0 nX = (0, 0) := by rw [ta3_eq]; decide +kernel
theorem a_f4 : EM.fm ta3 3 nX = (0, 0) := by rw [ta3_eq]; decide +kernel
theorem a_st : EM.st ta3 nX1 = nX := by rw [ta3_eq]; decide +kernel
theorem ta1_len : (ta1.P.length : Int) + 1 = 2 := by rw [ta1_eq]; rfl
theorem ta2_len : (ta2.P.length : Int) + 1 = 2 := by rw [ta2_eq]; rfl
theorem kind_one (w : World) : Calls Tryd.prog 18 #[.iface 57 (.int .i64 1)] w fun e w' => e = .returned (.int .i64 1) ∧ Went w w' := by
  have hS := Lib.hid (fun w => is_same 1 w)
  go_enter Tryd.func18, Tryd.ntmps18
  go_wp2
  refine wp_loop_rounds 1 ?_
  rw [rounds_succ]
  go_wp2_with (go_at_call 19; (with_reducible refine (hS.out _).mono ?_); rintro e w' ⟨rfl, rfl⟩)
  go_ret
  exact ⟨rfl, (Below.refl _ _).alloc (Nat.le_refl _) _⟩
set_option maxRecDepth 100000 in
set_option maxHeartbeats 4000000 in
theorem awake_any (w : World) (hM : MTab w) (hT : Tab w) : Calls Tryd.prog 6 #[] w fun e w' => e = .returned (.bool true) ∧ Went w w' := by
  have e0 := Lib.hid (new_ew w)
  have hN := Lib.hid (fun w => new_any w)
  have o1 : EM.Ok ta1 := tb0_ok.ext _ _ _ _
  have o2 : EM.Ok ta2 := o1.ali _ _
  have o3 : EM.Ok ta3 := o2.ext _ _ _ _
  have c1 := Lib.hid (fun w' (h : Ew w w' w.heap.size tb0) => ext_ew h tb0_ok 0 nX (by decide) 1 1)
  rw [a_x1, if_pos rfl, er_n, show ((tb0.P.length : Int) + 1) = 1 from rfl] at c1
  have c2 := Lib.hid (fun w' (h : Ew w w' w.heap.size ta1) => ali_ew h hM hT o1 1 nX (by decide))
  rw [a_a1, if_pos rfl, er_n, a_nam] at c2
  have c3 := Lib.hid (fun w' (h : Ew w w' w.heap.size ta2) => ext_ew h o2 0 nX (by decide) 1 2)
  rw [a_x3, if_pos rfl, er_n, ta2_len] at c3
  have c4 := Lib.hid (fun w' (h : Ew w w' w.heap.size ta3) => find_ew h o3 2 nX1 (by decide))
  rw [a_f1, a_c1, er_n] at c4
  have c5 := Lib.hid (fun w' (h : Ew w w' w.heap.size ta3) => find_ew h o3 2 nX (by decide))
  rw [a_f2, a_c2, er_n] at c5
  have c6 := Lib.hid (fun w' (h : Ew w w' w.heap.size ta3) => find_ew h o3 0 nX (by decide))
  rw [a_f3, a_c3, er_n] at c6
  have c7 := Lib.hid (fun w' (h : Ew w w' w.heap.size ta3) => find_ew h o3 3 nX (by decide))
  rw [a_f4, a_c4, er_y (by omega)] at c7
  have c8 := Lib.hid (fun w' (h : Ew w w' w.heap.size ta3) => strip_ew h hM nX1 (by decide))
  rw [a_st] at c8
  have hS := Lib.hid (fun w => is_same 3 w)
  unfold nX at c1 c2 c3 c5 c6 c7 c8
  unfold nX1 at c2 c4 c8
  simp only [encM] at c4 c5 c6 c7
  clear o1 o2 o3 hM hT
  go_enter Tryd.func6, Tryd.ntmps6
  go_wp2_with (first
    | (go_at_call 7; refine (hN.out _).mono ?_; rintro e w1 ⟨rfl, rfl⟩)
    | (go_at_call 11; (with_reducible refine (c1.out _ e0.out).mono ?_); rintro e w2 ⟨rfl, h⟩; have e2 := Lib.hid h; clear h)
    | (go_at_call 13; (with_reducible refine (c2.out _ e2.out).mono ?_); rintro e w3 ⟨rfl, h⟩; have e3 := Lib.hid h; clear h)
    | (go_at_call 11; (with_reducible refine (c3.out _ e3.out).mono ?_); rintro e w4 ⟨rfl, h⟩; have e4 := Lib.hid h; clear h)
    | (go_at_call 15; (with_reducible refine (c4.out _ e4.out).mono ?_); rintro e w5 ⟨rfl, h, -⟩
       have e5 := Lib.hid (h.went ((Below.refl _ w5).alloc (Nat.le_refl _) (.cells #[.int .i64 1, .int .i64 1] 24)))
       have l5 := Lib.hid (Lies.made w5 24 #[.int .i64 1, .int .i64 1])
       clear h)
    | (go_at_call 15; (with_reducible refine (c5.out _ e5.out).mono ?_); rintro e w6 ⟨rfl, h, hw⟩
       have b6 := (Below.refl _ w6).alloc (Nat.le_refl w6.heap.size) (.cells #[.int .i64 1, .int .i64 2] 24)
       have e6 := Lib.hid (h.went b6)
       have l6 := Lib.hid (Lies.made w6 24 #[.int .i64 1, .int .i64 2])
       have l56 := Lib.hid ((l5.out.below hw l5.out.lt).below b6 (l5.out.below hw l5.out.lt).lt)
       clear h hw b6)
    | (go_at_call 15; (with_reducible refine (c6.out _ e6.out).mono ?_); rintro e w7 ⟨rfl, h, hw⟩
       have b7 := (Below.refl _ w7).alloc (Nat.le_refl w7.heap.size) (.cells #[.int .i64 0, .int .i64 0] 24)
       have e7 := Lib.hid (h.went b7)
       have l7 := Lib.hid (Lies.made w7 24 #[.int .i64 0, .int .i64 0])
       have l57 := Lib.hid ((l56.out.below hw l56.out.lt).below b7 (l56.out.below hw l56.out.lt).lt)
       have l67 := Lib.hid ((l6.out.below hw l6.out.lt).below b7 (l6.out.below hw l6.out.lt).lt)
       clear h hw b7)
    | (go_at_call 15; (with_reducible refine (c7.out _ e7.out).mono ?_); rintro e w8 ⟨rfl, h, hw⟩
       have b8 := (Below.refl _ w8).alloc (Nat.le_refl w8.heap.size) (.cells #[.int .i64 0, .int .i64 0] 24)
       have e8 := Lib.hid (h.went b8)
       have l58 := (l57.out.below hw l57.out.lt).below b8 (l57.out.below hw l57.out.lt).lt
       have l68 := (l67.out.below hw l67.out.lt).below b8 (l67.out.below hw l67.out.lt).lt
       have l78 := (l7.out.below hw l7.out.lt).below b8 (l7.out.below hw l7.out.lt).lt
       have q5 : (w8.alloc (.cells #[.int .i64 0, .int .i64 0] 24)).cell? ⟨w5.heap.size, 1, none⟩ = some (.int .i64 1) := l58.cell 1
       have q6 : (w8.alloc (.cells #[.int .i64 0, .int .i64 0] 24)).cell? ⟨w6.heap.size, 1, none⟩ = some (.int .i64 2) := l68.cell 1
       have q7 : (w8.alloc (.cells #[.int .i64 0, .int .i64 0] 24)).cell? ⟨w7.heap.size, 0, none⟩ = some (.int .i64 0) := l78.cell 0
       clear h hw b8 l58 l68 l78)
    | (go_at_call 19; (with_reducible refine (hS.out _).mono ?_); rintro e w9 ⟨rfl, rfl⟩)
    | (go_at_call 17; (with_reducible refine (c8.out _ e8.out).mono ?_); rintro e w9 ⟨rfl, h, -⟩; have e9 := Lib.hid h; clear h))
  go_ret
  exact ⟨rfl, e9.out.1⟩
end Go.Proofs.YtbkjmmeipbbaaaaDoor
