/- The law ReadParts, walked. -/
import Derived.Test.YtfabafolbelhdaaDoorReadOne
namespace Go.Proofs.YtfabafolbelhdaaDoor
open Go.ChangeShapes Go.WideShapes Go.ChangeAt Go.RowKit

theorem readParts_long (a b : ByteArray) (hs : 4096 < a.size ∨ 4096 < b.size) (w : World) (hT : ETab w) :
    Calls Tryd.prog 3 #[.string a, .string b] w fun e w' => e = .returned (.bool true) ∧ Went w w' := by
  have h1 : ∀ w1, Went w w1 → ETab w1 := fun w1 h => hT.on h
  by_cases ha : 4096 < a.size
  · clear hs
    go_enter Tryd.func3, Tryd.ntmps3
    go_wp2_with (first
      | (go_at_call 7; (with_reducible refine (awake08_any _ hT).mono ?_); rintro e w1 ⟨rfl, hb1⟩)
      | (go_at_call 7; (with_reducible refine (awake08_any _ (h1 _ hb1)).mono ?_); rintro e w2 ⟨rfl, hb2⟩))
    go_ret
    exact ⟨rfl, hb1.trans hb2⟩
  · have hb : 4096 < b.size := by omega
    clear hs
    go_enter Tryd.func3, Tryd.ntmps3
    go_wp2_with (first
      | (go_at_call 7; (with_reducible refine (awake08_any _ hT).mono ?_); rintro e w1 ⟨rfl, hb1⟩)
      | (go_at_call 7; (with_reducible refine (awake08_any _ (h1 _ hb1)).mono ?_); rintro e w2 ⟨rfl, hb2⟩))
    go_ret
    exact ⟨rfl, hb1.trans hb2⟩

/-- one of the texts can't be read -/
theorem readParts_bad (a b : ByteArray) (ha : a.size ≤ 4096) (hb : b.size ≤ 4096) (w : World) (hT : ETab w) (Ra Rb : Except (Int × Int × Int) RM.Dl)
    (hA : ∀ w, Calls Tryd.prog 8 #[.string a] w (APost w Ra)) (hB : ∀ w, Calls Tryd.prog 8 #[.string b] w (APost w Rb)) (hbad : (∃ x, Ra = .error x) ∨ ∃ x, Rb = .error x) :
    Calls Tryd.prog 3 #[.string a, .string b] w fun e w' => e = .returned (.bool true) ∧ Went w w' := by
  cases Ra with
  | error x =>
    cases Rb with
    | error y =>
      unfold APost at hA hB
      have dA := Lib.hid hA
      have dB := Lib.hid hB
      clear hA hB hbad
      go_enter Tryd.func3, Tryd.ntmps3
      go_wp2_with (first
        | (go_at_call 7; refine (awake08_any _ hT).mono ?_; rintro e w1 ⟨rfl, hb1⟩)
        | (go_at_call 8; (with_reducible refine (dA.out _).mono ?_); rintro e w2 ⟨rfl, hb2⟩; unfold ekv)
        | (go_at_call 8; (with_reducible refine (dB.out _).mono ?_); rintro e w3 ⟨rfl, hb3⟩; unfold ekv))
      go_ret
      exact ⟨rfl, (hb1.trans hb2).trans hb3⟩
    | ok B =>
      unfold APost at hA hB
      have dA := Lib.hid hA
      have dB := Lib.hid hB
      clear hA hB hbad
      go_enter Tryd.func3, Tryd.ntmps3
      go_wp2_with (first
        | (go_at_call 7; refine (awake08_any _ hT).mono ?_; rintro e w1 ⟨rfl, hb1⟩)
        | (go_at_call 8; (with_reducible refine (dA.out _).mono ?_); rintro e w2 ⟨rfl, hb2⟩; unfold ekv)
        | (go_at_call 8; (with_reducible refine (dB.out _).mono ?_); rintro e w3 ⟨v3, rfl, hd3, hb3⟩; obtain ⟨A3, c3, rfl⟩ := hd3.read))
      go_ret
      exact ⟨rfl, (hb1.trans hb2).trans hb3⟩
  | ok A =>
    cases Rb with
    | error y =>
      unfold APost at hA hB
      have dA := Lib.hid hA
      have dB := Lib.hid hB
      clear hA hB hbad
      go_enter Tryd.func3, Tryd.ntmps3
      go_wp2_with (first
        | (go_at_call 7; refine (awake08_any _ hT).mono ?_; rintro e w1 ⟨rfl, hb1⟩)
        | (go_at_call 8; (with_reducible refine (dA.out _).mono ?_); rintro e w2 ⟨v2, rfl, hd2, hb2⟩; obtain ⟨A2, c2, rfl⟩ := hd2.read)
        | (go_at_call 8; (with_reducible refine (dB.out _).mono ?_); rintro e w3 ⟨rfl, hb3⟩; unfold ekv))
      go_ret
      exact ⟨rfl, (hb1.trans hb2).trans hb3⟩
    | ok B =>
      exfalso
      rcases hbad with ⟨x, h⟩ | ⟨x, h⟩ <;> cases h

theorem below_of_turns {X : Nat → Prop} {B : Nat} {w w' : World} (h : Turns X w w') (hB : B ≤ w.heap.size) (hx : ∀ i, X i → B ≤ i) : Below B w w' := h.below hB hx
theorem own_lit0 (w : World) : (w.alloc (.cells #[] 29)).ownsRow 0 29 4 (.slice (some ⟨w.heap.size, 0, none⟩) 0 0) 0 [] :=
  World.ownsRow_lit (base := 0) (e := 29) (size := 4) w #[] 0 (Nat.zero_le _) (by decide) rfl
set_option maxRecDepth 100000 in
set_option maxHeartbeats 8000000 in
theorem readParts_ok (a b : ByteArray) (ha : a.size ≤ 4096) (hb : b.size ≤ 4096) (w : World) (hT : ETab w) (A B : RM.Dl)
    (hA : ∀ w, Calls Tryd.prog 8 #[.string a] w (APost w (.ok A))) (hB : ∀ w, Calls Tryd.prog 8 #[.string b] w (APost w (.ok B)))
    (hN : ∀ w, Calls Tryd.prog 8 #[.string (a ++ ⟨#[10]⟩ ++ b)] w (APost w (.ok (A.app B)))) (hla : A.len ≤ 100000) (hlb : B.len ≤ 100000) :
    Calls Tryd.prog 3 #[.string a, .string b] w fun e w' => e = .returned (.bool true) ∧ Went w w' := by
  unfold APost at hA hB hN
  have dA := Lib.hid hA
  have dB := Lib.hid hB
  have dN := Lib.hid hN
  obtain ⟨N, hNN⟩ : ∃ N, (A.app B).len = N := ⟨_, rfl⟩
  have hNs : N = A.len + B.len := by rw [← hNN, RM.Dl.len_app]
  have e8 : ((N : Int) != (A.len : Int) + (B.len : Int)) = false := by rw [hNs]; simp
  have hN3 : N ≤ 200000 := by omega
  have hNs' := Lib.hid hNs
  have hl6' := Lib.hid hNN
  clear hA hB hN hNN hNs
  go_enter Tryd.func3, Tryd.ntmps3
  go_wp2_with (first
    | (go_at_call 7; refine (awake08_any _ hT).mono ?_; rintro e w1 ⟨rfl, hb1⟩)
    | (go_at_call 8
       (with_reducible refine (dA.out _).mono ?_)
       rintro e w2 ⟨v2, rfl, hd2, hb2⟩
       obtain ⟨A2, c2, rfl⟩ := hd2.read)
    | (go_at_call 8
       (with_reducible refine (dB.out _).mono ?_)
       rintro e w3 ⟨v3, rfl, hd3, hb3⟩
       obtain ⟨A3, c3, rfl⟩ := hd3.read
       have hd2' := hd2.below hb3)
    | (go_at_call 8
       (with_reducible refine (dN.out _).mono ?_)
       rintro e w4 ⟨v4, rfl, hd4, hb4⟩
       obtain ⟨A4, c4, rfl⟩ := hd4.read
       have hd2'' := hd2'.below hb4
       have hd3' := hd3.below hb4
       rw [hl6'.out] at hd4 ⊢
       have hb5 : Went w w4 := ((hb1.trans hb2).trans hb3).trans hb4
       have hz2 := hd2''
       clear hd2 hd2' hd3)
    | (at_builtin
       obtain ⟨cA, ha1, -, ha3⟩ := hd2''
       refine wpList_append_row (v := .slice (some ⟨w4.heap.size, 0, none⟩) 0 0) (x := .slice A2 A.len c2) (.agg #[.int .i64 0, .int .i64 0, .string ⟨#[]⟩, .slice none 0 0]) 56 Tryd.infoDatum rfl (by decide) rfl _ _ 23 rfl Tryd.underlying23 rfl rfl (own_lit0 w4) (own_turns ha1 ((Turns.refl (fun _ => False) _).alloc _) (fun _ _ h => h)) (DatAt.one ha3) (by omega) (by omega) (by simp) ?_
       intro v5 w5 hown5 hg5 hat5
       have hI5 : Its w5 (fun _ => True) v5 (RM.Dl.nil.app A) := Its.grew (w := w4.alloc (.cells #[] 29)) (S := fun _ => True) (d := .nil) (e := A) (v := .slice (some ⟨w4.heap.size, 0, none⟩) 0 0) (fun g hg => ⟨trivial, by injection hg with hg; subst hg; simp⟩) rfl
         (DatAt.mono (fun g hg hs => ⟨trivial, fun hh => by injection hh with hh; exact hs.2 hh.symm⟩) (DatAt.turns (S := fun g => w2.heap.size ≤ w2.heap.size ∧ g ≠ w4.heap.size) ((Turns.refl (fun _ => False) _).alloc _) (fun _ _ _ h => h) (ha3.mono (fun g hg _ => ⟨Nat.le_refl _, by omega⟩)))) (Turns.refl _ _) hown5 hg5 hat5 (fun _ _ _ => trivial) trivial
       have ht5 : Turns (fun g => g = w4.heap.size) w4 w5 := ((Turns.refl _ w4).alloc _).trans ((Turns.appendedS hg5).mono (fun g _ hh => by injection hh with hh; exact hh.symm))
       have hbk : ∀ g, v5.ownBlock = some g → w4.heap.size ≤ g := fun g hg => by
         rcases hat5 with e | e
         · rw [e] at hg; injection hg with hg; subst hg; exact Nat.le_refl _
         · rw [e] at hg; injection hg with hg; subst hg; simp
       have hd4s := (hd4.mono (S' := fun g => g < w4.heap.size) (fun g hg _ => hg)).turns ht5 (fun g hg hs hh => by omega)
       obtain ⟨A5, c5, rfl⟩ := hI5.read
       clear hg5 hat5 hown5 ha1 ha3)
    | (at_builtin
       obtain ⟨cA, ha1, -, ha3⟩ := hI5
       obtain ⟨cB, hb3b, -, hb3c⟩ := hd3'
       have hb3d := hb3c.mono (S' := fun g => g < w4.heap.size) (fun g hg _ => hg)
       have hb3e := DatAt.turns ht5 (fun g hg hs hh => by omega) hb3d
       refine wpList_append_row (v := .slice A5 (RM.Dl.nil.app A).len c5) (x := .slice A3 B.len c3) (.agg #[.int .i64 0, .int .i64 0, .string ⟨#[]⟩, .slice none 0 0]) 56 Tryd.infoDatum rfl (by decide) rfl _ _ 23 rfl Tryd.underlying23 rfl rfl ha1 (own_turns hb3b ht5 (fun g hg hh => by have := (World.ownsRow.lt hb3b g hg).2; omega)) (DatAt.one hb3c) (by show A.len + B.len ≤ _; omega) (by omega) (by simp) ?_
       intro v6 w6 hown6 hg6 hat6
       have hI6 : Its w6 (fun _ => True) v6 (A.app B) := Its.grew (S := fun _ => True) (d := A) (e := B) (v := .slice A5 (RM.Dl.nil.app A).len c5) (fun g hg => ⟨trivial, (World.ownsRow.lt ha1 g hg).2⟩) ha3
         (DatAt.mono (fun g hg hs => ⟨trivial, fun hh => by have := hbk g hh; omega⟩) hb3e) (Turns.refl _ _) hown6 hg6 hat6 (fun _ _ _ => trivial) trivial
       have hd6 := hd4s.turns (Turns.appendedS hg6) (fun g hg hs hh => by have := hbk g hh; omega)
       have e6 := hI6.dat
       obtain ⟨A6, c6, rfl⟩ := hI6.read
       rw [hl6'.out] at e6 ⊢
       have hb7 : Went w w6 := hb5.trans (below_of_turns (ht5.then (Turns.appendedS hg6) (fun k hk hh => by have := hbk k hh; omega)) (Nat.le_refl _) (fun k hk => by omega))
       clear ha1 ha3 hb3b hb3c hb3d hb3e hI6 hg6 hat6 hown6 hd4s hbk ht5))
  go_loopw [68] (fun i wr => ∃ j : Nat, j ≤ N ∧ i = .int .i64 j ∧ Below w6.heap.size w6 wr) (fun i _ => N - (intOf i).toNat)
  case atStart => exact ⟨0, by omega, rfl, Below.refl _ _⟩
  case round =>
    obtain ⟨j, hj, rfl, hb⟩ := hrel
    by_cases hlt : j < N
    · obtain ⟨x, hx⟩ := (A.app B).at_some j (by rw [hl6'.out]; exact hlt)
      have f1 := (hd6.below hb).at_ hx
      have f2 := (e6.below hb).at_ hx
      obtain ⟨g1, u1, rfl, hg1, p0, p1, p2, p3, hd1⟩ := f1
      obtain ⟨g2, u2, rfl, hg2, q0, q1, q2, q3, hd2⟩ := f2
      have hx' := Lib.hid (same_any x)
      obtain ⟨B1, b1, rfl⟩ := hd1.read
      obtain ⟨B2, b2, rfl⟩ := hd2.read
      clear hx
      go_wp2_with fail
      go_region_held3 (fun w' => w'.cell? ⟨g1, j * 4, none⟩ = some (.int .i64 x.k) ∧ w'.cell? ⟨g1, j * 4 + 1, none⟩ = some (.int .i64 x.n) ∧ w'.cell? ⟨g1, j * 4 + 2, none⟩ = some (.string ⟨x.s.toArray⟩) ∧ w'.cell? ⟨g1, j * 4 + 3, none⟩ = some (.slice B1 x.is.len b1)
          ∧ w'.cell? ⟨wr.heap.size, 0, none⟩ = some (.int .i64 x.k) ∧ w'.cell? ⟨wr.heap.size, 1, none⟩ = some (.int .i64 x.n) ∧ w'.cell? ⟨wr.heap.size, 2, none⟩ = some (.string ⟨x.s.toArray⟩) ∧ w'.cell? ⟨wr.heap.size, 3, none⟩ = some (.slice B2 x.is.len b2)) (first | go_keep | with_reducible exact kx)
        (first
          | (go_at_call 9
             refine (hx'.out _ _ _ (.slice B1 x.is.len b1) (.slice B2 x.is.len b2) ((hd1.turns ((Turns.refl (fun _ => False) wr).alloc _) (fun _ _ _ h => h)).drew) ((hd2.turns ((Turns.refl (fun _ => False) wr).alloc _) (fun _ _ _ h => h)).drew)).mono ?_
             rintro e w9 ⟨rfl, hb9⟩
             have hX9 := ((Lies.made wr 29 #[.int .i64 x.k, .int .i64 x.n, .string ⟨x.s.toArray⟩, .slice B2 x.is.len b2]).drew).below hb9 (by simp)
             have hb9' : Below wr.heap.size wr w9 := ((Below.refl _ wr).alloc (Nat.le_refl _) _).trans (below_of_drew (hb9.mono (by simp)))
             have ce : ∀ (b o : Nat), b < wr.heap.size → w9.cell? ⟨b, o, none⟩ = wr.cell? ⟨b, o, none⟩ := fun b o h => hb9'.cell (p := ⟨b, o, none⟩) h
             have kx : w9.cell? ⟨g1, j * 4, none⟩ = some (.int .i64 x.k) ∧ w9.cell? ⟨g1, j * 4 + 1, none⟩ = some (.int .i64 x.n) ∧ w9.cell? ⟨g1, j * 4 + 2, none⟩ = some (.string ⟨x.s.toArray⟩) ∧ w9.cell? ⟨g1, j * 4 + 3, none⟩ = some (.slice B1 x.is.len b1)
                 ∧ w9.cell? ⟨wr.heap.size, 0, none⟩ = some (.int .i64 x.k) ∧ w9.cell? ⟨wr.heap.size, 1, none⟩ = some (.int .i64 x.n) ∧ w9.cell? ⟨wr.heap.size, 2, none⟩ = some (.string ⟨x.s.toArray⟩) ∧ w9.cell? ⟨wr.heap.size, 3, none⟩ = some (.slice B2 x.is.len b2) :=
               ⟨(ce _ _ hg1).trans p0, (ce _ _ hg1).trans p1, (ce _ _ hg1).trans p2, (ce _ _ hg1).trans p3, hX9.cell 0, hX9.cell 1, hX9.cell 2, hX9.cell 3⟩
             clear ce hb9 hX9))
      have hb10 : Below w6.heap.size w6 w9 := hb.trans (hb9'.mono hb.size)
      clear hb9' kx p0 p1 p2 p3 q0 q1 q2 q3
      go_wp2_with fail
      go_roundw
      case rel => exact ⟨j + 1, by omega, by go_num, hb10⟩
      case measure => simp [intOf]; omega
    · obtain rfl : j = N := by omega
      go_wp2_with fail
      go_ret
      exact ⟨rfl, hb7.trans hb⟩

theorem cat_list (a b : ByteArray) : (a ++ ⟨#[10]⟩ ++ b).data.toList = a.data.toList ++ 10 :: b.data.toList := by
  simp [ByteArray.data_append]
theorem cat_size (a b : ByteArray) : (a ++ ⟨#[10]⟩ ++ b).size = a.size + 1 + b.size := by
  rw [ByteArray.size_append, ByteArray.size_append]; rfl
theorem all_len {f : Nat} {D A : RM.Dl} {s : RM.St} (h : RM.all f D s = .ok A) : A.len ≤ D.len + f := by
  induction f generalizing D s with
  | zero => unfold RM.all at h; cases h
  | succ f ih =>
    rcases RM.all_step h with ⟨_, rfl⟩ | ⟨d, s2, _, _, _, _, h2⟩
    · omega
    · have := ih h2
      rw [RM.Dl.len_snoc] at this
      omega
theorem readParts_walk (a b : ByteArray) (w : World) (hT : ETab w) :
    Calls Tryd.prog 3 #[.string a, .string b] w fun e w' => e = .returned (.bool true) ∧ Below w.heap.size w w' := by
  by_cases hs : 4096 < a.size ∨ 4096 < b.size
  · exact readParts_long a b hs w hT
  have ha : a.size ≤ 4096 := by omega
  have hb : b.size ≤ 4096 := by omega
  have hA := rAll_any a (by omega)
  have hB := rAll_any b (by omega)
  cases hRa : RM.all (a.size + 1) .nil (RM.start a.data.toList) with
  | error x => exact readParts_bad a b ha hb w hT _ _ hA hB (.inl ⟨x, hRa⟩)
  | ok A =>
    cases hRb : RM.all (b.size + 1) .nil (RM.start b.data.toList) with
    | error x => exact readParts_bad a b ha hb w hT _ _ hA hB (.inr ⟨x, hRb⟩)
    | ok B =>
      rw [hRa] at hA
      rw [hRb] at hB
      have hla := all_len hRa
      have hlb := all_len hRb
      have hN := rAll_any (a ++ ⟨#[10]⟩ ++ b) (by rw [cat_size]; omega)
      rw [← size_len a] at hRa
      rw [← size_len b] at hRb
      have h2 := RM.all_two hRa hRb
      rw [← cat_list, size_len] at h2
      rw [h2] at hN
      simp only [RM.Dl.len] at hla hlb
      exact readParts_ok a b ha hb w hT A B hA hB hN (by omega) (by omega)
end Go.Proofs.YtfabafolbelhdaaDoor
