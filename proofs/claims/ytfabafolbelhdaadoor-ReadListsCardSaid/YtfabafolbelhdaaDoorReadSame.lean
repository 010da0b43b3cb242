/- The reference's walks over data: two that are the same; how deep; how many parts. -/
import Derived.Test.YtfabafolbelhdaaDoorReadAll
namespace Go.Proofs.YtfabafolbelhdaaDoor
open Go.ChangeShapes Go.WideShapes Go.ChangeAt Go.RowKit

/-- the datum at a place of a row -/
def RM.Dl.at_ : RM.Dl → Nat → Option RM.Dm
  | .nil, _ => none
  | .cons k n s is _, 0 => some ⟨k, n, s, is⟩
  | .cons _ _ _ _ r, i + 1 => r.at_ i
theorem RM.Dl.at_some : ∀ (d : RM.Dl) (i : Nat), i < d.len → ∃ x, d.at_ i = some x
  | .nil, i, h => by simp [RM.Dl.len] at h
  | .cons k n s is r, 0, h => ⟨⟨k, n, s, is⟩, rfl⟩
  | .cons k n s is r, i + 1, h => RM.Dl.at_some r i (by simp only [RM.Dl.len] at h; omega)
theorem DatAt.at_ {w : World} {S : Nat → Prop} : ∀ {d : RM.Dl} {cs : List Value} {i : Nat} {x : RM.Dm}, DatAt w S d cs → d.at_ i = some x →
    ∃ v, cs[i * 4]? = some (.int .i64 x.k) ∧ cs[i * 4 + 1]? = some (.int .i64 x.n) ∧ cs[i * 4 + 2]? = some (.string ⟨x.s.toArray⟩) ∧ cs[i * 4 + 3]? = some v ∧ Dat w S v x.is
  | .nil, _, _, _, _, hx => by simp [RM.Dl.at_] at hx
  | .cons k n s is r, cs, 0, x, ⟨v, c1, c2, h1, h2, h3, h4, h5⟩, hx => by
    simp only [RM.Dl.at_, Option.some.injEq] at hx
    subst hx
    subst h1
    exact ⟨v, rfl, rfl, rfl, rfl, c1, h2, h3, h4⟩
  | .cons k n s is r, cs, i + 1, x, ⟨v, c1, c2, h1, h2, h3, h4, h5⟩, hx => by
    obtain ⟨v', q0, q1, q2, q3, hd⟩ := DatAt.at_ h5 (show r.at_ i = some x from hx)
    subst h1
    have e : ∀ j, ([Value.int .i64 k, .int .i64 n, .string ⟨s.toArray⟩, v] ++ c2)[(i + 1) * 4 + j]? = c2[i * 4 + j]? := fun j => by
      rw [List.getElem?_append_right (by simp; omega)]
      congr 1
      simp; omega
    exact ⟨v', by rw [← q0]; exact e 0, by rw [← q1]; exact e 1, by rw [← q2]; exact e 2, by rw [← q3]; exact e 3, hd⟩
theorem Dat.at_ {w : World} {S : Nat → Prop} {A : Option Addr} {n c : Nat} {d : RM.Dl} (h : Dat w S (.slice A n c) d) {i : Nat} {x : RM.Dm} (hx : d.at_ i = some x) :
    ∃ g v, A = some ⟨g, 0, none⟩ ∧ g < w.heap.size ∧ w.cell? ⟨g, i * 4, none⟩ = some (.int .i64 x.k) ∧ w.cell? ⟨g, i * 4 + 1, none⟩ = some (.int .i64 x.n) ∧ w.cell? ⟨g, i * 4 + 2, none⟩ = some (.string ⟨x.s.toArray⟩) ∧ w.cell? ⟨g, i * 4 + 3, none⟩ = some v ∧ Dat w S v x.is := by
  obtain ⟨cs, h1, h2, h3⟩ := h
  obtain ⟨v, q0, q1, q2, q3, hd⟩ := h3.at_ hx
  have hl : cs.length = d.len * 4 := h1.1
  have hi : i * 4 + 3 < d.len * 4 := by rw [← hl]; exact (List.getElem?_eq_some_iff.1 q3).1
  obtain ⟨A', c', e, hr⟩ := own_read h1
  injection e with e1 e2 e3
  subst e1
  obtain ⟨g, hg, _, hlt, _⟩ := hr (i * 4) (by omega)
  subst hg
  have at' : ∀ j, j < d.len * 4 → w.cell? ⟨g, j, none⟩ = cs[j]? := fun j hj => by
    obtain ⟨g', hg', _, _, h'⟩ := hr j hj
    cases hg'
    exact h'
  exact ⟨g, v, rfl, hlt, by rw [at' _ (by omega), q0], by rw [at' _ (by omega), q1], by rw [at' _ (by omega), q2], by rw [at' _ (by omega), q3], hd⟩
theorem Dat.len {w : World} {S : Nat → Prop} {v : Value} {d : RM.Dl} (h : Dat w S v d) : d.len ≤ 9223372036854775807 := by
  obtain ⟨cs, h1, _⟩ := h
  rcases h1.2 with ⟨_, hn⟩ | ⟨g, cap, cur, _, _, _, hc, hm, _⟩
  · omega
  · unfold maxLen at hm; omega
theorem Dat.drew {w : World} {S : Nat → Prop} {v : Value} {d : RM.Dl} (h : Dat w S v d) : Dat w.drew S v d := h.turns (Turns.refl (fun _ => False) w).drew (fun _ _ _ h => h)
/-- what holds of all data of a row that is made of such -/
theorem RM.Dl.all_of (P : RM.Dm → Prop) (hP : ∀ k n s is, (∀ i x, RM.Dl.at_ is i = some x → P x) → P ⟨k, n, s, is⟩) : ∀ (d : RM.Dl) (i : Nat) (x : RM.Dm), d.at_ i = some x → P x
  | .nil, i, x, h => by simp [RM.Dl.at_] at h
  | .cons k n s is r, 0, x, h => by
    simp only [RM.Dl.at_, Option.some.injEq] at h
    subst h
    exact hP k n s is (RM.Dl.all_of P hP is)
  | .cons k n s is r, i + 1, x, h => RM.Dl.all_of P hP r i x h
def dtv (x : RM.Dm) (v : Value) : Value := .agg #[.int .i64 x.k, .int .i64 x.n, .string ⟨x.s.toArray⟩, v]

/-! ### the same -/
def SameOk (x : RM.Dm) : Prop := ∀ (w : World) (S1 S2 : Nat → Prop) (v1 v2 : Value), Dat w S1 v1 x.is → Dat w S2 v2 x.is →
  Calls Tryd.prog 9 #[dtv x v1, dtv x v2] w fun e w' => e = .returned (.bool true) ∧ Went w w'
set_option maxRecDepth 100000 in
set_option maxHeartbeats 4000000 in
theorem same_step (k n : Int) (s : List UInt8) (is : RM.Dl) (hP : ∀ i x, is.at_ i = some x → SameOk x) : SameOk ⟨k, n, s, is⟩ := by
  intro w S1 S2 v1 v2 h1 h2
  have hlen := h1.len
  obtain ⟨A1, c1, rfl⟩ := h1.read
  obtain ⟨A2, c2, rfl⟩ := h2.read
  simp only at h1 h2 hlen ⊢
  unfold dtv
  simp only
  obtain ⟨N, hN⟩ : ∃ N, is.len = N := ⟨_, rfl⟩
  rw [hN] at h1 h2 hlen ⊢
  have hN' := Lib.hid hN
  have hP' := Lib.hid hP
  have ks : (k != k) = false := by simp
  have ns : (n != n) = false := by simp
  have hL1 := (Lies.made w 29 #[.int .i64 k, .int .i64 n, .string ⟨s.toArray⟩, .slice A1 N c1]).alloc (.cells #[.int .i64 k, .int .i64 n, .string ⟨s.toArray⟩, .slice A2 N c2] 29)
  have hL2 := lies_made2 w (.cells #[.int .i64 k, .int .i64 n, .string ⟨s.toArray⟩, .slice A1 N c1] 29) 29 #[.int .i64 k, .int .i64 n, .string ⟨s.toArray⟩, .slice A2 N c2]
  clear hN hP
  go_enter Tryd.func9, Tryd.ntmps9
  go_wp2_with fail
  go_loopw [5] (fun i wr => ∃ j : Nat, j ≤ N ∧ i = .int .i64 j ∧ Below w.heap.size w wr ∧ Lies wr w.heap.size 29 [.int .i64 k, .int .i64 n, .string ⟨s.toArray⟩, .slice A1 N c1] ∧ Lies wr (w.heap.size + 1) 29 [.int .i64 k, .int .i64 n, .string ⟨s.toArray⟩, .slice A2 N c2]) (fun i _ => N - (intOf i).toNat)
  case atStart => exact ⟨0, by omega, rfl, ((Below.refl _ w).alloc (Nat.le_refl _) _).alloc (by simp) _, hL1, hL2⟩
  case round =>
    obtain ⟨j, hj, rfl, hb, hM1, hM2⟩ := hrel
    clear hL1 hL2
    have y3 : wr.cell? ⟨w.heap.size, 3, none⟩ = some (.slice A1 N c1) := hM1.cell 3
    have z3 : wr.cell? ⟨w.heap.size + 1, 3, none⟩ = some (.slice A2 N c2) := hM2.cell 3
    by_cases hlt : j < N
    · obtain ⟨x, hx⟩ := is.at_some j (by rw [hN'.out]; exact hlt)
      have e1 := (h1.turns (Turns.of_below hb (fun _ => False)) (fun _ _ _ h => h)).at_ hx
      have e2 := (h2.turns (Turns.of_below hb (fun _ => False)) (fun _ _ _ h => h)).at_ hx
      obtain ⟨g1, u1, rfl, hg1, p0, p1, p2, p3, hd1⟩ := e1
      obtain ⟨g2, u2, rfl, hg2, q0, q1, q2, q3, hd2⟩ := e2
      have hx' := Lib.hid (hP'.out j x hx)
      obtain ⟨B1, b1, rfl⟩ := hd1.read
      obtain ⟨B2, b2, rfl⟩ := hd2.read
      have hz := hM2.lt
      clear hx
      go_wp2_with fail
      go_region_held3 (fun w' => w'.cell? ⟨w.heap.size, 3, none⟩ = some (.slice (some ⟨g1, 0, none⟩) N c1) ∧ w'.cell? ⟨w.heap.size + 1, 3, none⟩ = some (.slice (some ⟨g2, 0, none⟩) N c2)
          ∧ w'.cell? ⟨g1, j * 4, none⟩ = some (.int .i64 x.k) ∧ w'.cell? ⟨g1, j * 4 + 1, none⟩ = some (.int .i64 x.n) ∧ w'.cell? ⟨g1, j * 4 + 2, none⟩ = some (.string ⟨x.s.toArray⟩) ∧ w'.cell? ⟨g1, j * 4 + 3, none⟩ = some (.slice B1 x.is.len b1)
          ∧ w'.cell? ⟨g2, j * 4, none⟩ = some (.int .i64 x.k) ∧ w'.cell? ⟨g2, j * 4 + 1, none⟩ = some (.int .i64 x.n) ∧ w'.cell? ⟨g2, j * 4 + 2, none⟩ = some (.string ⟨x.s.toArray⟩) ∧ w'.cell? ⟨g2, j * 4 + 3, none⟩ = some (.slice B2 x.is.len b2)) (first | go_keep | with_reducible exact kx)
        (first
          | (go_at_call 9
             refine (hx'.out wr.drew S1 S2 (.slice B1 x.is.len b1) (.slice B2 x.is.len b2) hd1.drew hd2.drew).mono ?_
             rintro e w5 ⟨rfl, hb5⟩
             have ce : ∀ (b o : Nat), b < wr.heap.size → w5.cell? ⟨b, o, none⟩ = wr.cell? ⟨b, o, none⟩ := fun b o h => hb5.cell (p := ⟨b, o, none⟩) h
             have kx : w5.cell? ⟨w.heap.size, 3, none⟩ = some (.slice (some ⟨g1, 0, none⟩) N c1) ∧ w5.cell? ⟨w.heap.size + 1, 3, none⟩ = some (.slice (some ⟨g2, 0, none⟩) N c2)
               ∧ w5.cell? ⟨g1, j * 4, none⟩ = some (.int .i64 x.k) ∧ w5.cell? ⟨g1, j * 4 + 1, none⟩ = some (.int .i64 x.n) ∧ w5.cell? ⟨g1, j * 4 + 2, none⟩ = some (.string ⟨x.s.toArray⟩) ∧ w5.cell? ⟨g1, j * 4 + 3, none⟩ = some (.slice B1 x.is.len b1)
               ∧ w5.cell? ⟨g2, j * 4, none⟩ = some (.int .i64 x.k) ∧ w5.cell? ⟨g2, j * 4 + 1, none⟩ = some (.int .i64 x.n) ∧ w5.cell? ⟨g2, j * 4 + 2, none⟩ = some (.string ⟨x.s.toArray⟩) ∧ w5.cell? ⟨g2, j * 4 + 3, none⟩ = some (.slice B2 x.is.len b2) :=
               ⟨(ce _ _ (by omega)).trans y3, (ce _ _ hz).trans z3, (ce _ _ hg1).trans p0, (ce _ _ hg1).trans p1, (ce _ _ hg1).trans p2, (ce _ _ hg1).trans p3, (ce _ _ hg2).trans q0, (ce _ _ hg2).trans q1, (ce _ _ hg2).trans q2, (ce _ _ hg2).trans q3⟩
             clear ce))
      have hM3 : Lies w5 w.heap.size 29 [.int .i64 k, .int .i64 n, .string ⟨s.toArray⟩, .slice (some ⟨g1, 0, none⟩) N c1] := hM1.drew.below hb5 hM1.lt
      have hM4 : Lies w5 (w.heap.size + 1) 29 [.int .i64 k, .int .i64 n, .string ⟨s.toArray⟩, .slice (some ⟨g2, 0, none⟩) N c2] := hM2.drew.below hb5 hM2.lt
      have hb6 : Below w.heap.size w w5 := hb.trans (below_of_drew (hb5.mono hb.size))
      clear hb5 kx p0 p1 p2 p3 q0 q1 q2 q3 y3 z3
      go_wp2_with fail
      go_roundw
      case rel => exact ⟨j + 1, by omega, by go_num, hb6, hM3, hM4⟩
      case measure => simp [intOf]; omega
    · obtain rfl : j = N := by omega
      go_wp2_with fail
      go_ret
      exact ⟨rfl, hb⟩
theorem same_any (x : RM.Dm) : SameOk x := RM.Dl.all_of SameOk same_step (.one x) 0 x (by cases x; rfl)
end Go.Proofs.YtfabafolbelhdaaDoor
