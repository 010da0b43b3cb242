/- What the writer puts of a datum: its text; rows too. -/
import Derived.Test.YthfelkcomhflnaaDoorQ35
namespace Go.Proofs.YthfelkcomhflnaaDoor
open Go.ChangeShapes Go.WideShapes Go.ChangeAt Go.RowKit

/-- what the writer owes of a datum, the data being those of an older world -/
def DtOk (x : RM.Dm) : Prop := ∀ (W0 w : World) (u v : Value) (B p : Nat) (l : List UInt8) (b : Bool), In W0 u x.is → SM.kd x.k x.n x.s x.is = true → SM.rgt x.is = true → Tab W0 → W0.heap.size ≤ B →
  Below W0.heap.size W0 w → Wr w B p v l b → l.length + 1010 * (SM.sz x.is + 1) ≤ 900000000 →
  Calls Tryd.prog 71 #[.pointer (some ⟨p, 0, none⟩), dtv x u] w fun e w' => e = .returned (.tuple #[]) ∧ (∃ v', Wr w' B p v' (l ++ SM.txt b x) b) ∧ Ch B p w w'
section
variable {W0 w w' : World} {B p : Nat}
theorem Ch.from (h : Below W0.heap.size W0 w) (hB : W0.heap.size ≤ B) (hp : B ≤ p) (hw : B ≤ w.heap.size) (k : Ch B p w w') : Below W0.heap.size W0 w' := h.trans ((k.below hp hw).mono hB)
end
set_option maxRecDepth 100000 in
set_option maxHeartbeats 8000000 in
theorem row_any (k n : Int) (s : List UInt8) (is : RM.Dl) (hP : ∀ i x, is.at_ i = some x → DtOk x) (hk : k = 6 ∨ k = 7 ∨ k = 8) (W0 w : World) (u v : Value) (B p : Nat) (l : List UInt8) (b : Bool) (h1 : In W0 u is) (hkd : SM.kd k n s is = true) (hrg : SM.rgt is = true) (hT0 : Tab W0) (hB0 : W0.heap.size ≤ B)
    (hb0 : Below W0.heap.size W0 w) (hW0 : Wr w B p v l b) (hlz : l.length + 1010 * SM.sz is ≤ 899999000) :
    Calls Tryd.prog 86 #[.pointer (some ⟨p, 0, none⟩), .agg #[.int .i64 k, .int .i64 n, .string ⟨s.toArray⟩, u]] w fun e w' => e = .returned (.tuple #[]) ∧ (∃ v', Wr w' B p v' (l ++ (40 :: (SM.tl b (decide (k = 7)) true is ++ [41]))) b) ∧ Ch B p w w' := by
  obtain ⟨A1, c1, rfl⟩ := h1.read
  have hlen := h1.len
  obtain ⟨hBp, hpw⟩ := hW0.lt
  obtain ⟨S, hS⟩ : ∃ S : ByteArray, ⟨s.toArray⟩ = S := ⟨_, rfl⟩
  have hN2 : k = 7 → 2 ≤ is.len := fun h => by
    subst h
    simp [SM.kd] at hkd
    exact hkd.1.2
  obtain ⟨N, hN⟩ : ∃ N, is.len = N := ⟨_, rfl⟩
  obtain ⟨Z, hZ⟩ : ∃ Z, SM.sz is = Z := ⟨_, rfl⟩
  rw [hS]
  rw [hN] at h1 hlen hN2 ⊢
  rw [hZ] at hlz
  have hN' := Lib.hid hN
  have hZ' := Lib.hid hZ
  have hP' := Lib.hid hP
  have hrg' := Lib.hid hrg
  have hT0' := Lib.hid hT0
  have hPut := Lib.hid (fun w' v' l' t => put_any w' B p v' l' t b)
  clear hN hP hZ hS hrg hkd hT0
  rcases hk with rfl | rfl | rfl
  · rw [show decide ((6 : Int) = 7) = false from rfl]
    obtain ⟨G, hG⟩ : ∃ G, l ++ (40 :: SM.tl b false true is) = G := ⟨_, rfl⟩
    have hG' := Lib.hid hG
    have hone : Hid (l ++ (40 :: (SM.tl b false true is ++ [41])) = G ++ [41]) := Lib.hid (by rw [← hG]; simp)
    have hL := Lies.made w 42 #[.int .i64 6, .int .i64 n, .string S, .slice A1 N c1]
    have hWa := hW0.alloc (.cells #[.int .i64 6, .int .i64 n, .string S, .slice A1 N c1] 42)
    clear hG
    go_enter Tryd.func86, Tryd.ntmps86
    go_wp2_with (
      go_at_call 82
      refine (hPut.out _ v l [40] hWa (by simp; omega)).mono ?_
      rintro e w1 ⟨rfl, ⟨v1, hW1⟩, hc1⟩
      have hM0 := hL.ch (by decide) (by omega) hc1
      have y3 := hM0.cell 3
      simp only [List.getElem?_cons_succ, List.getElem?_cons_zero] at y3)
    go_loopw [11] (fun i wr => ∃ (j R : Nat) (vr : Value) (L : List UInt8), j ≤ N ∧ i = .int .i64 j ∧ Wr wr B p vr L b ∧ Hid (SM.sz (SM.dr is j) = R) ∧ Hid (SM.rgt (SM.dr is j) = true) ∧ Hid (L ++ SM.tl b false (decide (j = 0)) (SM.dr is j) = G) ∧ L.length + 1010 * R ≤ 899999001 ∧ Ch B p w wr ∧ Lies wr w.heap.size 42 [.int .i64 6, .int .i64 n, .string S, .slice A1 N c1]) (fun i _ => N - (intOf i).toNat)
    case atStart => exact ⟨0, Z, v1, l ++ [40], by omega, rfl, hW1, Lib.hid (by rw [SM.dr_zero]; exact hZ'.out), Lib.hid (by rw [SM.dr_zero]; exact hrg'.out), Lib.hid (by rw [SM.dr_zero, ← hG'.out]; simp), by simp; omega, Ch.of_alloc hc1, hM0⟩
    case round =>
      obtain ⟨j, R, vr, L, hj, rfl, hW, hR, hrj, hLG, hLs, hc, hM1⟩ := hrel
      clear hL hM0 y3 hW1 hc1 hWa
      obtain ⟨-, hpr⟩ := hW.lt
      have hqr := hM1.lt
      have hbr := Ch.from hb0 hB0 hBp (by omega) hc
      by_cases hlt : j < N
      · obtain ⟨x, hx⟩ := is.at_some j (by rw [hN'.out]; exact hlt)
        obtain ⟨g5, o5, B5, q5, rfl, hbl, p0, p1, p2, p3, hd1⟩ := (h1.below hbr).at_ hx
        obtain ⟨g6, o6, B6, q6, e6, -, -, -, -, -, hd0⟩ := h1.at_ hx
        have hd0' : In W0 (.slice B5 x.is.len q5) x.is := by
          obtain ⟨g7, o7, B7, q7, e7, _, _, _, _, c7, hd7⟩ := h1.at_ hx
          cases e7
          have : (Value.slice B7 x.is.len q7) = .slice B5 x.is.len q5 := by
            have h8 := (hbr.cell (p := ⟨g5, o5 + j * 4 + 3, none⟩) ‹_›).trans c7
            rw [p3] at h8
            exact (Option.some.inj h8).symm
          rw [← this]; exact hd7
        clear hd0 e6
        have hx' := Lib.hid hx
        have hR0 := hR.out
        rw [SM.sz_at hx] at hR0
        have hrj0 := hrj.out
        rw [SM.rgt_at' hx, Bool.and_eq_true, Bool.and_eq_true] at hrj0
        obtain ⟨⟨hk5, hr5⟩, hr6⟩ := hrj0
        have hr6' := Lib.hid hr6
        have htl := Lib.hid (SM.txt_len' b x hk5 hr5)
        obtain ⟨R1, hR1⟩ : ∃ R1, SM.sz (SM.dr is (j + 1)) = R1 := ⟨_, rfl⟩
        obtain ⟨X, hX⟩ : ∃ X, SM.sz x.is = X := ⟨_, rfl⟩
        rw [hR1, hX] at hR0
        rw [hX] at htl
        have hR1' := Lib.hid hR1
        have hC := Lib.hid (fun w' v' L' (hb' : Below W0.heap.size W0 w') hw' hl' => hP'.out j x hx W0 w' (.slice B5 x.is.len q5) v' B p L' b hd0' hk5 hr5 hT0'.out hB0 hb' hw' hl')
        rw [hX] at hC
        unfold dtv at hC
        obtain ⟨sep, hsep⟩ : ∃ sep : List UInt8, (if j = 0 then [] else [32]) = sep := ⟨_, rfl⟩
        obtain ⟨dt, hdt⟩ : ∃ dt : List UInt8, (if false = true ∧ j + 1 = N then [46, 32] else []) = dt := ⟨_, rfl⟩
        have hG5 : Hid (L ++ (sep ++ (dt ++ (SM.txt b x ++ SM.tl b false false (SM.dr is (j + 1))))) = G) := Lib.hid (by
          rw [← hsep, ← hdt, ← SM.tl_go hx hN'.out hlt]; exact hLG.out)
        have hse0 : Hid (j = 0 → sep = []) := Lib.hid (fun h => by rw [← hsep, if_pos h])
        have hse1 : Hid (¬ j = 0 → sep = [32]) := Lib.hid (fun h => by rw [← hsep, if_neg h])
        have hdt0 : Hid (¬ (false = true ∧ j + 1 = N) → dt = []) := Lib.hid (fun h => by rw [← hdt, if_neg h])
        have hdt1 : Hid (false = true ∧ j + 1 = N → dt = [46, 32]) := Lib.hid (fun h => by rw [← hdt, if_pos h])
        clear hx hR1 hX hk5 hr5 hr6 hsep hdt hLG
        have hIa := Lies.made wr 42 #[.int .i64 x.k, .int .i64 x.n, .string ⟨x.s.toArray⟩, .slice B5 x.is.len q5]
        have hWa := hW.alloc (.cells #[.int .i64 x.k, .int .i64 x.n, .string ⟨x.s.toArray⟩, .slice B5 x.is.len q5] 42)
        have hQa := hM1.alloc (.cells #[.int .i64 x.k, .int .i64 x.n, .string ⟨x.s.toArray⟩, .slice B5 x.is.len q5] 42)
        have hba : Below W0.heap.size W0 (wr.alloc (.cells #[.int .i64 x.k, .int .i64 x.n, .string ⟨x.s.toArray⟩, .slice B5 x.is.len q5] 42)) := hbr.alloc hbr.size _
        have y0 : wr.cell? ⟨w.heap.size, 0, none⟩ = some (.int .i64 6) := hM1.cell 0
        have y3 : wr.cell? ⟨w.heap.size, 3, none⟩ = some (.slice (some ⟨g5, o5, none⟩) N c1) := hM1.cell 3
        by_cases hj0 : j = 0
        · subst hj0
          simp only [Nat.zero_mul, Nat.add_zero] at p0 p1 p2 p3
          go_wp2_with (first
            | (go_at_call 71
               refine (hC.out _ vr L hba hWa (by first | omega | (simp; omega))).mono ?_
               rintro e w9 ⟨rfl, ⟨v9, hW9⟩, hc9⟩
               have hQ9 := hQa.ch (by decide) (by omega) hc9))
          go_roundw
          case rel => exact ⟨0 + 1, R1, v9, L ++ SM.txt b x, by omega, by go_num, hW9, hR1', hr6', Lib.hid (by rw [← hG5.out, hse0.out (by first | trivial | omega | (simp; done) | (simp; omega)), hdt0.out (by first | trivial | omega | (simp; done) | (simp; omega)), decide_eq_false (by omega)]; simp), by have := htl.out; simp; omega, hc.trans (((Ch.refl B p wr).alloc _).trans hc9), hQ9⟩
          case measure => simp [intOf]; omega
        · go_wp2_with (first
            | (go_at_call 82
               with_reducible refine (hPut.out _ vr L [32] hWa (by first | omega | (simp; omega))).mono ?_
               rintro e w5 ⟨rfl, ⟨v5, hW5⟩, hc5⟩
               have hI5 := hIa.ch (by decide) (by omega) hc5
               have hQ5 := hQa.ch (by decide) (by omega) hc5
               have hb5 := Ch.from hba hB0 hBp (by have := (hWa).lt; omega) hc5
               have z0 := hI5.cell 0
               have z1 := hI5.cell 1
               have z2 := hI5.cell 2
               have z3 := hI5.cell 3
               simp only [List.getElem?_cons_succ, List.getElem?_cons_zero] at z0 z1 z2 z3)
            | (go_at_call 71
               refine (hC.out _ v5 (L ++ [32]) hb5 hW5 (by first | omega | (simp; omega))).mono ?_
               rintro e w9 ⟨rfl, ⟨v9, hW9⟩, hc9⟩
               have hQ9 := hQ5.ch (by decide) (by omega) hc9))
          go_roundw
          case rel => exact ⟨j + 1, R1, v9, (L ++ [32]) ++ SM.txt b x, by omega, by go_num, hW9, hR1', hr6', Lib.hid (by rw [← hG5.out, hse1.out (by first | trivial | omega | (simp; done) | (simp; omega)), hdt0.out (by first | trivial | omega | (simp; done) | (simp; omega)), decide_eq_false (by omega)]; simp), by have := htl.out; simp; omega, hc.trans ((((Ch.refl B p wr).alloc _).trans hc5).trans hc9), hQ9⟩
          case measure => simp [intOf]; omega
      · obtain rfl : j = N := by omega
        go_wp2_with (
          go_at_call 82
          refine (hPut.out _ vr L [41] hW (by simp; omega)).mono ?_
          rintro e w5 ⟨rfl, ⟨v5, hW5⟩, hc5⟩)
        go_end0
        have hE := hLG.out
        rw [SM.dr_end is j (by rw [hN'.out]; exact Nat.le_refl _)] at hE
        exact ⟨rfl, ⟨v5, by rw [hone.out, ← hE]; simpa [SM.tl] using hW5⟩, hc.trans hc5⟩
  · rw [show decide ((7 : Int) = 7) = true from rfl]
    obtain ⟨G, hG⟩ : ∃ G, l ++ (40 :: SM.tl b true true is) = G := ⟨_, rfl⟩
    have hG' := Lib.hid hG
    have hone : Hid (l ++ (40 :: (SM.tl b true true is ++ [41])) = G ++ [41]) := Lib.hid (by rw [← hG]; simp)
    have hL := Lies.made w 42 #[.int .i64 7, .int .i64 n, .string S, .slice A1 N c1]
    have hWa := hW0.alloc (.cells #[.int .i64 7, .int .i64 n, .string S, .slice A1 N c1] 42)
    clear hG
    go_enter Tryd.func86, Tryd.ntmps86
    go_wp2_with (
      go_at_call 82
      refine (hPut.out _ v l [40] hWa (by simp; omega)).mono ?_
      rintro e w1 ⟨rfl, ⟨v1, hW1⟩, hc1⟩
      have hM0 := hL.ch (by decide) (by omega) hc1
      have y3 := hM0.cell 3
      simp only [List.getElem?_cons_succ, List.getElem?_cons_zero] at y3)
    go_loopw [11] (fun i wr => ∃ (j R : Nat) (vr : Value) (L : List UInt8), j ≤ N ∧ i = .int .i64 j ∧ Wr wr B p vr L b ∧ Hid (SM.sz (SM.dr is j) = R) ∧ Hid (SM.rgt (SM.dr is j) = true) ∧ Hid (L ++ SM.tl b true (decide (j = 0)) (SM.dr is j) = G) ∧ L.length + 1010 * R ≤ 899999001 ∧ Ch B p w wr ∧ Lies wr w.heap.size 42 [.int .i64 7, .int .i64 n, .string S, .slice A1 N c1]) (fun i _ => N - (intOf i).toNat)
    case atStart => exact ⟨0, Z, v1, l ++ [40], by omega, rfl, hW1, Lib.hid (by rw [SM.dr_zero]; exact hZ'.out), Lib.hid (by rw [SM.dr_zero]; exact hrg'.out), Lib.hid (by rw [SM.dr_zero, ← hG'.out]; simp), by simp; omega, Ch.of_alloc hc1, hM0⟩
    case round =>
      obtain ⟨j, R, vr, L, hj, rfl, hW, hR, hrj, hLG, hLs, hc, hM1⟩ := hrel
      clear hL hM0 y3 hW1 hc1 hWa
      obtain ⟨-, hpr⟩ := hW.lt
      have hqr := hM1.lt
      have hbr := Ch.from hb0 hB0 hBp (by omega) hc
      by_cases hlt : j < N
      · obtain ⟨x, hx⟩ := is.at_some j (by rw [hN'.out]; exact hlt)
        obtain ⟨g5, o5, B5, q5, rfl, hbl, p0, p1, p2, p3, hd1⟩ := (h1.below hbr).at_ hx
        obtain ⟨g6, o6, B6, q6, e6, -, -, -, -, -, hd0⟩ := h1.at_ hx
        have hd0' : In W0 (.slice B5 x.is.len q5) x.is := by
          obtain ⟨g7, o7, B7, q7, e7, _, _, _, _, c7, hd7⟩ := h1.at_ hx
          cases e7
          have : (Value.slice B7 x.is.len q7) = .slice B5 x.is.len q5 := by
            have h8 := (hbr.cell (p := ⟨g5, o5 + j * 4 + 3, none⟩) ‹_›).trans c7
            rw [p3] at h8
            exact (Option.some.inj h8).symm
          rw [← this]; exact hd7
        clear hd0 e6
        have hx' := Lib.hid hx
        have hR0 := hR.out
        rw [SM.sz_at hx] at hR0
        have hrj0 := hrj.out
        rw [SM.rgt_at' hx, Bool.and_eq_true, Bool.and_eq_true] at hrj0
        obtain ⟨⟨hk5, hr5⟩, hr6⟩ := hrj0
        have hr6' := Lib.hid hr6
        have htl := Lib.hid (SM.txt_len' b x hk5 hr5)
        obtain ⟨R1, hR1⟩ : ∃ R1, SM.sz (SM.dr is (j + 1)) = R1 := ⟨_, rfl⟩
        obtain ⟨X, hX⟩ : ∃ X, SM.sz x.is = X := ⟨_, rfl⟩
        rw [hR1, hX] at hR0
        rw [hX] at htl
        have hR1' := Lib.hid hR1
        have hC := Lib.hid (fun w' v' L' (hb' : Below W0.heap.size W0 w') hw' hl' => hP'.out j x hx W0 w' (.slice B5 x.is.len q5) v' B p L' b hd0' hk5 hr5 hT0'.out hB0 hb' hw' hl')
        rw [hX] at hC
        unfold dtv at hC
        obtain ⟨sep, hsep⟩ : ∃ sep : List UInt8, (if j = 0 then [] else [32]) = sep := ⟨_, rfl⟩
        obtain ⟨dt, hdt⟩ : ∃ dt : List UInt8, (if true = true ∧ j + 1 = N then [46, 32] else []) = dt := ⟨_, rfl⟩
        have hG5 : Hid (L ++ (sep ++ (dt ++ (SM.txt b x ++ SM.tl b true false (SM.dr is (j + 1))))) = G) := Lib.hid (by
          rw [← hsep, ← hdt, ← SM.tl_go hx hN'.out hlt]; exact hLG.out)
        have hse0 : Hid (j = 0 → sep = []) := Lib.hid (fun h => by rw [← hsep, if_pos h])
        have hse1 : Hid (¬ j = 0 → sep = [32]) := Lib.hid (fun h => by rw [← hsep, if_neg h])
        have hdt0 : Hid (¬ (true = true ∧ j + 1 = N) → dt = []) := Lib.hid (fun h => by rw [← hdt, if_neg h])
        have hdt1 : Hid (true = true ∧ j + 1 = N → dt = [46, 32]) := Lib.hid (fun h => by rw [← hdt, if_pos h])
        clear hx hR1 hX hk5 hr5 hr6 hsep hdt hLG
        have hIa := Lies.made wr 42 #[.int .i64 x.k, .int .i64 x.n, .string ⟨x.s.toArray⟩, .slice B5 x.is.len q5]
        have hWa := hW.alloc (.cells #[.int .i64 x.k, .int .i64 x.n, .string ⟨x.s.toArray⟩, .slice B5 x.is.len q5] 42)
        have hQa := hM1.alloc (.cells #[.int .i64 x.k, .int .i64 x.n, .string ⟨x.s.toArray⟩, .slice B5 x.is.len q5] 42)
        have hba : Below W0.heap.size W0 (wr.alloc (.cells #[.int .i64 x.k, .int .i64 x.n, .string ⟨x.s.toArray⟩, .slice B5 x.is.len q5] 42)) := hbr.alloc hbr.size _
        have y0 : wr.cell? ⟨w.heap.size, 0, none⟩ = some (.int .i64 7) := hM1.cell 0
        have y3 : wr.cell? ⟨w.heap.size, 3, none⟩ = some (.slice (some ⟨g5, o5, none⟩) N c1) := hM1.cell 3
        have hw : wrap64 ((N : Int) - 1) = (N : Int) - 1 := by unfold wrap64; omega
        have h2N : 2 ≤ N := by first | exact hN2 rfl | exact hN2 trivial | exact hN2
        by_cases hj0 : j = 0
        · subst hj0
          simp only [Nat.zero_mul, Nat.add_zero] at p0 p1 p2 p3
          have hjN1 : ¬ ((0 : Int) = (N : Int) - 1) := by omega
          go_wp2_with (first
            | (go_at_call 71
               refine (hC.out _ vr L hba hWa (by first | omega | (simp; omega))).mono ?_
               rintro e w9 ⟨rfl, ⟨v9, hW9⟩, hc9⟩
               have hQ9 := hQa.ch (by decide) (by omega) hc9))
          go_roundw
          case rel => exact ⟨0 + 1, R1, v9, L ++ SM.txt b x, by omega, by go_num, hW9, hR1', hr6', Lib.hid (by rw [← hG5.out, hse0.out (by first | trivial | omega | (simp; done) | (simp; omega)), hdt0.out (by first | trivial | omega | (simp; done) | (simp; omega)), decide_eq_false (by omega)]; simp), by have := htl.out; simp; omega, hc.trans (((Ch.refl B p wr).alloc _).trans hc9), hQ9⟩
          case measure => simp [intOf]; omega
        · by_cases hjN : j + 1 = N
          · have hjN1 : (j : Int) = (N : Int) - 1 := by omega
            have hjb : ((j : Int) == (N : Int) - 1) = true := by simp [hjN1]
            clear hjN1
            go_wp2_with (first
              | (go_at_call 82
                 with_reducible refine (hPut.out _ vr L [32, 46] hWa (by first | omega | (simp; omega))).mono ?_
                 rintro e w5 ⟨rfl, ⟨v5, hW5⟩, hc5⟩
                 have hI5 := hIa.ch (by decide) (by omega) hc5
                 have hQ5 := hQa.ch (by decide) (by omega) hc5
                 have hb5 := Ch.from hba hB0 hBp (by have := (hWa).lt; omega) hc5
                 have z0 := hI5.cell 0
                 have z1 := hI5.cell 1
                 have z2 := hI5.cell 2
                 have z3 := hI5.cell 3
                 simp only [List.getElem?_cons_succ, List.getElem?_cons_zero] at z0 z1 z2 z3)
              | (go_at_call 82
                 with_reducible refine (hPut.out _ v5 (L ++ [32, 46]) [32] hW5 (by first | omega | (simp; omega))).mono ?_
                 rintro e w6 ⟨rfl, ⟨v6, hW6⟩, hc6⟩
                 have hI6 := hI5.ch (by decide) (by omega) hc6
                 have hQ6 := hQ5.ch (by decide) (by omega) hc6
                 have hb6 := Ch.from hb5 hB0 hBp (by have := (hW5).lt; omega) hc6
                 have z0 := hI6.cell 0
                 have z1 := hI6.cell 1
                 have z2 := hI6.cell 2
                 have z3 := hI6.cell 3
                 simp only [List.getElem?_cons_succ, List.getElem?_cons_zero] at z0 z1 z2 z3)
              | (go_at_call 71
                 refine (hC.out _ v6 ((L ++ [32, 46]) ++ [32]) hb6 hW6 (by first | omega | (simp; omega))).mono ?_
                 rintro e w9 ⟨rfl, ⟨v9, hW9⟩, hc9⟩
                 have hQ9 := hQ6.ch (by decide) (by omega) hc9))
            go_roundw
            case rel => exact ⟨j + 1, R1, v9, ((L ++ [32, 46]) ++ [32]) ++ SM.txt b x, by omega, by go_num, hW9, hR1', hr6', Lib.hid (by rw [← hG5.out, hse1.out (by first | trivial | omega | (simp; done) | (simp; omega)), hdt1.out (by first | trivial | omega | (simp; done) | (simp; omega)), decide_eq_false (by omega)]; simp), by have := htl.out; simp; omega, hc.trans (((((Ch.refl B p wr).alloc _).trans hc5).trans hc6).trans hc9), hQ9⟩
            case measure => simp [intOf]; omega
          · have hjN1 : ¬ ((j : Int) = (N : Int) - 1) := by omega
            go_wp2_with (first
              | (go_at_call 82
                 with_reducible refine (hPut.out _ vr L [32] hWa (by first | omega | (simp; omega))).mono ?_
                 rintro e w5 ⟨rfl, ⟨v5, hW5⟩, hc5⟩
                 have hI5 := hIa.ch (by decide) (by omega) hc5
                 have hQ5 := hQa.ch (by decide) (by omega) hc5
                 have hb5 := Ch.from hba hB0 hBp (by have := (hWa).lt; omega) hc5
                 have z0 := hI5.cell 0
                 have z1 := hI5.cell 1
                 have z2 := hI5.cell 2
                 have z3 := hI5.cell 3
                 simp only [List.getElem?_cons_succ, List.getElem?_cons_zero] at z0 z1 z2 z3)
              | (go_at_call 71
                 refine (hC.out _ v5 (L ++ [32]) hb5 hW5 (by first | omega | (simp; omega))).mono ?_
                 rintro e w9 ⟨rfl, ⟨v9, hW9⟩, hc9⟩
                 have hQ9 := hQ5.ch (by decide) (by omega) hc9))
            go_roundw
            case rel => exact ⟨j + 1, R1, v9, (L ++ [32]) ++ SM.txt b x, by omega, by go_num, hW9, hR1', hr6', Lib.hid (by rw [← hG5.out, hse1.out (by first | trivial | omega | (simp; done) | (simp; omega)), hdt0.out (by first | trivial | omega | (simp; done) | (simp; omega)), decide_eq_false (by omega)]; simp), by have := htl.out; simp; omega, hc.trans ((((Ch.refl B p wr).alloc _).trans hc5).trans hc9), hQ9⟩
            case measure => simp [intOf]; omega
      · obtain rfl : j = N := by omega
        go_wp2_with (
          go_at_call 82
          refine (hPut.out _ vr L [41] hW (by simp; omega)).mono ?_
          rintro e w5 ⟨rfl, ⟨v5, hW5⟩, hc5⟩)
        go_end0
        have hE := hLG.out
        rw [SM.dr_end is j (by rw [hN'.out]; exact Nat.le_refl _)] at hE
        exact ⟨rfl, ⟨v5, by rw [hone.out, ← hE]; simpa [SM.tl] using hW5⟩, hc.trans hc5⟩
  · rw [show decide ((8 : Int) = 7) = false from rfl]
    obtain ⟨G, hG⟩ : ∃ G, l ++ (40 :: SM.tl b false true is) = G := ⟨_, rfl⟩
    have hG' := Lib.hid hG
    have hone : Hid (l ++ (40 :: (SM.tl b false true is ++ [41])) = G ++ [41]) := Lib.hid (by rw [← hG]; simp)
    have hL := Lies.made w 42 #[.int .i64 8, .int .i64 n, .string S, .slice A1 N c1]
    have hWa := hW0.alloc (.cells #[.int .i64 8, .int .i64 n, .string S, .slice A1 N c1] 42)
    clear hG
    go_enter Tryd.func86, Tryd.ntmps86
    go_wp2_with (
      go_at_call 82
      refine (hPut.out _ v l [40] hWa (by simp; omega)).mono ?_
      rintro e w1 ⟨rfl, ⟨v1, hW1⟩, hc1⟩
      have hM0 := hL.ch (by decide) (by omega) hc1
      have y3 := hM0.cell 3
      simp only [List.getElem?_cons_succ, List.getElem?_cons_zero] at y3)
    go_loopw [11] (fun i wr => ∃ (j R : Nat) (vr : Value) (L : List UInt8), j ≤ N ∧ i = .int .i64 j ∧ Wr wr B p vr L b ∧ Hid (SM.sz (SM.dr is j) = R) ∧ Hid (SM.rgt (SM.dr is j) = true) ∧ Hid (L ++ SM.tl b false (decide (j = 0)) (SM.dr is j) = G) ∧ L.length + 1010 * R ≤ 899999001 ∧ Ch B p w wr ∧ Lies wr w.heap.size 42 [.int .i64 8, .int .i64 n, .string S, .slice A1 N c1]) (fun i _ => N - (intOf i).toNat)
    case atStart => exact ⟨0, Z, v1, l ++ [40], by omega, rfl, hW1, Lib.hid (by rw [SM.dr_zero]; exact hZ'.out), Lib.hid (by rw [SM.dr_zero]; exact hrg'.out), Lib.hid (by rw [SM.dr_zero, ← hG'.out]; simp), by simp; omega, Ch.of_alloc hc1, hM0⟩
    case round =>
      obtain ⟨j, R, vr, L, hj, rfl, hW, hR, hrj, hLG, hLs, hc, hM1⟩ := hrel
      clear hL hM0 y3 hW1 hc1 hWa
      obtain ⟨-, hpr⟩ := hW.lt
      have hqr := hM1.lt
      have hbr := Ch.from hb0 hB0 hBp (by omega) hc
      by_cases hlt : j < N
      · obtain ⟨x, hx⟩ := is.at_some j (by rw [hN'.out]; exact hlt)
        obtain ⟨g5, o5, B5, q5, rfl, hbl, p0, p1, p2, p3, hd1⟩ := (h1.below hbr).at_ hx
        obtain ⟨g6, o6, B6, q6, e6, -, -, -, -, -, hd0⟩ := h1.at_ hx
        have hd0' : In W0 (.slice B5 x.is.len q5) x.is := by
          obtain ⟨g7, o7, B7, q7, e7, _, _, _, _, c7, hd7⟩ := h1.at_ hx
          cases e7
          have : (Value.slice B7 x.is.len q7) = .slice B5 x.is.len q5 := by
            have h8 := (hbr.cell (p := ⟨g5, o5 + j * 4 + 3, none⟩) ‹_›).trans c7
            rw [p3] at h8
            exact (Option.some.inj h8).symm
          rw [← this]; exact hd7
        clear hd0 e6
        have hx' := Lib.hid hx
        have hR0 := hR.out
        rw [SM.sz_at hx] at hR0
        have hrj0 := hrj.out
        rw [SM.rgt_at' hx, Bool.and_eq_true, Bool.and_eq_true] at hrj0
        obtain ⟨⟨hk5, hr5⟩, hr6⟩ := hrj0
        have hr6' := Lib.hid hr6
        have htl := Lib.hid (SM.txt_len' b x hk5 hr5)
        obtain ⟨R1, hR1⟩ : ∃ R1, SM.sz (SM.dr is (j + 1)) = R1 := ⟨_, rfl⟩
        obtain ⟨X, hX⟩ : ∃ X, SM.sz x.is = X := ⟨_, rfl⟩
        rw [hR1, hX] at hR0
        rw [hX] at htl
        have hR1' := Lib.hid hR1
        have hC := Lib.hid (fun w' v' L' (hb' : Below W0.heap.size W0 w') hw' hl' => hP'.out j x hx W0 w' (.slice B5 x.is.len q5) v' B p L' b hd0' hk5 hr5 hT0'.out hB0 hb' hw' hl')
        rw [hX] at hC
        unfold dtv at hC
        obtain ⟨sep, hsep⟩ : ∃ sep : List UInt8, (if j = 0 then [] else [32]) = sep := ⟨_, rfl⟩
        obtain ⟨dt, hdt⟩ : ∃ dt : List UInt8, (if false = true ∧ j + 1 = N then [46, 32] else []) = dt := ⟨_, rfl⟩
        have hG5 : Hid (L ++ (sep ++ (dt ++ (SM.txt b x ++ SM.tl b false false (SM.dr is (j + 1))))) = G) := Lib.hid (by
          rw [← hsep, ← hdt, ← SM.tl_go hx hN'.out hlt]; exact hLG.out)
        have hse0 : Hid (j = 0 → sep = []) := Lib.hid (fun h => by rw [← hsep, if_pos h])
        have hse1 : Hid (¬ j = 0 → sep = [32]) := Lib.hid (fun h => by rw [← hsep, if_neg h])
        have hdt0 : Hid (¬ (false = true ∧ j + 1 = N) → dt = []) := Lib.hid (fun h => by rw [← hdt, if_neg h])
        have hdt1 : Hid (false = true ∧ j + 1 = N → dt = [46, 32]) := Lib.hid (fun h => by rw [← hdt, if_pos h])
        clear hx hR1 hX hk5 hr5 hr6 hsep hdt hLG
        have hIa := Lies.made wr 42 #[.int .i64 x.k, .int .i64 x.n, .string ⟨x.s.toArray⟩, .slice B5 x.is.len q5]
        have hWa := hW.alloc (.cells #[.int .i64 x.k, .int .i64 x.n, .string ⟨x.s.toArray⟩, .slice B5 x.is.len q5] 42)
        have hQa := hM1.alloc (.cells #[.int .i64 x.k, .int .i64 x.n, .string ⟨x.s.toArray⟩, .slice B5 x.is.len q5] 42)
        have hba : Below W0.heap.size W0 (wr.alloc (.cells #[.int .i64 x.k, .int .i64 x.n, .string ⟨x.s.toArray⟩, .slice B5 x.is.len q5] 42)) := hbr.alloc hbr.size _
        have y0 : wr.cell? ⟨w.heap.size, 0, none⟩ = some (.int .i64 8) := hM1.cell 0
        have y3 : wr.cell? ⟨w.heap.size, 3, none⟩ = some (.slice (some ⟨g5, o5, none⟩) N c1) := hM1.cell 3
        by_cases hj0 : j = 0
        · subst hj0
          simp only [Nat.zero_mul, Nat.add_zero] at p0 p1 p2 p3
          go_wp2_with (first
            | (go_at_call 71
               refine (hC.out _ vr L hba hWa (by first | omega | (simp; omega))).mono ?_
               rintro e w9 ⟨rfl, ⟨v9, hW9⟩, hc9⟩
               have hQ9 := hQa.ch (by decide) (by omega) hc9))
          go_roundw
          case rel => exact ⟨0 + 1, R1, v9, L ++ SM.txt b x, by omega, by go_num, hW9, hR1', hr6', Lib.hid (by rw [← hG5.out, hse0.out (by first | trivial | omega | (simp; done) | (simp; omega)), hdt0.out (by first | trivial | omega | (simp; done) | (simp; omega)), decide_eq_false (by omega)]; simp), by have := htl.out; simp; omega, hc.trans (((Ch.refl B p wr).alloc _).trans hc9), hQ9⟩
          case measure => simp [intOf]; omega
        · go_wp2_with (first
            | (go_at_call 82
               with_reducible refine (hPut.out _ vr L [32] hWa (by first | omega | (simp; omega))).mono ?_
               rintro e w5 ⟨rfl, ⟨v5, hW5⟩, hc5⟩
               have hI5 := hIa.ch (by decide) (by omega) hc5
               have hQ5 := hQa.ch (by decide) (by omega) hc5
               have hb5 := Ch.from hba hB0 hBp (by have := (hWa).lt; omega) hc5
               have z0 := hI5.cell 0
               have z1 := hI5.cell 1
               have z2 := hI5.cell 2
               have z3 := hI5.cell 3
               simp only [List.getElem?_cons_succ, List.getElem?_cons_zero] at z0 z1 z2 z3)
            | (go_at_call 71
               refine (hC.out _ v5 (L ++ [32]) hb5 hW5 (by first | omega | (simp; omega))).mono ?_
               rintro e w9 ⟨rfl, ⟨v9, hW9⟩, hc9⟩
               have hQ9 := hQ5.ch (by decide) (by omega) hc9))
          go_roundw
          case rel => exact ⟨j + 1, R1, v9, (L ++ [32]) ++ SM.txt b x, by omega, by go_num, hW9, hR1', hr6', Lib.hid (by rw [← hG5.out, hse1.out (by first | trivial | omega | (simp; done) | (simp; omega)), hdt0.out (by first | trivial | omega | (simp; done) | (simp; omega)), decide_eq_false (by omega)]; simp), by have := htl.out; simp; omega, hc.trans ((((Ch.refl B p wr).alloc _).trans hc5).trans hc9), hQ9⟩
          case measure => simp [intOf]; omega
      · obtain rfl : j = N := by omega
        go_wp2_with (
          go_at_call 82
          refine (hPut.out _ vr L [41] hW (by simp; omega)).mono ?_
          rintro e w5 ⟨rfl, ⟨v5, hW5⟩, hc5⟩)
        go_end0
        have hE := hLG.out
        rw [SM.dr_end is j (by rw [hN'.out]; exact Nat.le_refl _)] at hE
        exact ⟨rfl, ⟨v5, by rw [hone.out, ← hE]; simpa [SM.tl] using hW5⟩, hc.trans hc5⟩
end Go.Proofs.YthfelkcomhflnaaDoor
