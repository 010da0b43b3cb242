/- The law ReadLists, walked. -/
import Derived.Test.YtfabafolbelhdaaDoorReadLawP
namespace Go.Proofs.YtfabafolbelhdaaDoor
open Go.ChangeShapes Go.WideShapes Go.ChangeAt Go.RowKit

theorem field_kind (a b c : Int) (w : World) : (Instr.field 35 (.agg #[.int .i64 a, .int .i64 b, .int .i64 c]) 0).run Tryd.prog w = .ok (.int .i64 a) w := by kernel_rfl
theorem readLists_long (s : ByteArray) (hs : 2000 < s.size) (w : World) (hT : ETab w) :
    Calls Tryd.prog 4 #[.string s] w fun e w' => e = .returned (.bool true) ∧ Went w w' := by
  have h1 : ∀ w1, Went w w1 → ETab w1 := fun w1 h => hT.on h
  go_enter Tryd.func4, Tryd.ntmps4
  go_wp2_with (first
    | (go_at_call 7; (with_reducible refine (awake08_any _ hT).mono ?_); rintro e w1 ⟨rfl, hb1⟩)
    | (go_at_call 7; (with_reducible refine (awake08_any _ (h1 _ hb1)).mono ?_); rintro e w2 ⟨rfl, hb2⟩))
  go_ret
  exact ⟨rfl, hb1.trans hb2⟩
theorem readLists_bad (s : ByteArray) (hs : s.size ≤ 2000) (w : World) (hT : ETab w) (x : Int × Int × Int) (hA : ∀ w, Calls Tryd.prog 8 #[.string s] w (APost w (.error x))) :
    Calls Tryd.prog 4 #[.string s] w fun e w' => e = .returned (.bool true) ∧ Went w w' := by
  unfold APost at hA
  have dA := Lib.hid hA
  clear hA
  go_enter Tryd.func4, Tryd.ntmps4
  go_wp2_with (first
    | (go_at_call 7; refine (awake08_any _ hT).mono ?_; rintro e w1 ⟨rfl, hb1⟩)
    | (go_at_call 8; refine (dA.out _).mono ?_; rintro e w2 ⟨rfl, hb2⟩; unfold ekv))
  go_ret
  exact ⟨rfl, hb1.trans hb2⟩

set_option maxRecDepth 100000 in
set_option maxHeartbeats 16000000 in
theorem readLists_ok (s : ByteArray) (hs : s.size ≤ 2000) (w : World) (hT : ETab w) (L : RM.Dl) (R2 R3 : Except (Int × Int × Int) RM.Dl)
    (hA : ∀ w, Calls Tryd.prog 8 #[.string s] w (APost w (.ok L)))
    (hM : ∀ w, Calls Tryd.prog 8 #[.string ((⟨#[40]⟩ : ByteArray) ++ s ++ ⟨#[10, 41]⟩)] w (APost w R2))
    (hQ : ∀ w, Calls Tryd.prog 8 #[.string ((⟨#[39, 40]⟩ : ByteArray) ++ s ++ ⟨#[10, 41]⟩)] w (APost w R3))
    (h2 : R2 = .ok (.one ⟨6, 0, [], L⟩) ∨ ∃ i j, R2 = .error (14, i, j)) (h3 : R3 = .ok (.one (RM.marked 4 ⟨6, 0, [], L⟩)) ∨ ∃ i j, R3 = .error (14, i, j)) (hl : L.len ≤ 2001) :
    Calls Tryd.prog 4 #[.string s] w fun e w' => e = .returned (.bool true) ∧ Went w w' := by
  unfold APost at hA
  have dA := Lib.hid hA
  have dM := Lib.hid hM
  have dQ := Lib.hid hQ
  have d2 := Lib.hid h2
  have d3 := Lib.hid h3
  obtain ⟨N, hNN⟩ : ∃ N, L.len = N := ⟨_, rfl⟩
  rw [hNN] at hl
  have hl6' := Lib.hid hNN
  clear hA hM hQ h2 h3 hNN
  go_enter Tryd.func4, Tryd.ntmps4
  go_wp2_with (first
    | (go_at_call 7; refine (awake08_any _ hT).mono ?_; rintro e w1 ⟨rfl, hb1⟩)
    | (go_at_call 8
       (with_reducible refine (dA.out _).mono ?_)
       rintro e w2 ⟨v2, rfl, hd2, hb2⟩
       obtain ⟨A2, c2, rfl⟩ := hd2.read
       rw [hl6'.out] at hd2 ⊢
       have hb3 : Went w w2 := hb1.trans hb2))
  go_loopw [5, 30] (fun nn i wr => ∃ (j : Nat) (y : Int), j ≤ N ∧ i = .int .i64 j ∧ 0 ≤ y ∧ y ≤ 5000 * j ∧ nn = .int .i64 y ∧ Below w2.heap.size w2 wr) (fun _ i _ => N - (intOf i).toNat)
  case atStart => exact ⟨0, 0, by omega, rfl, by omega, by omega, rfl, Below.refl _ _⟩
  case round =>
    obtain ⟨j, y, hj, rfl, hy0, hy1, rfl, hb⟩ := hrel
    by_cases hlt : j < N
    · obtain ⟨x, hx⟩ := L.at_some j (by rw [hl6'.out]; exact hlt)
      have f1 := (hd2.below hb).at_ hx
      obtain ⟨g1, u1, rfl, hg1, p0, p1, p2, p3, hd1⟩ := f1
      obtain ⟨B1, b1, rfl⟩ := hd1.read
      have hD := Lib.hid (deep_any x)
      have hP := Lib.hid (parts_any x)
      clear hx
      have hda := hd1.turns ((Turns.refl (fun _ => False) wr).alloc (.cells #[.int .i64 x.k, .int .i64 x.n, .string ⟨x.s.toArray⟩, .slice B1 x.is.len b1] 29)) (fun _ _ _ h => h)
      go_wp2_with (first
        | (go_at_call 10
           refine (hD.out _ _ (.slice B1 x.is.len b1) 70 hda (by omega) (by omega)).mono ?_
           rintro e w5 ⟨y5, h50, h51, rfl, hb5⟩
           have hX5 := (Lies.made wr 29 #[.int .i64 x.k, .int .i64 x.n, .string ⟨x.s.toArray⟩, .slice B1 x.is.len b1]).below hb5 (by simp)
           have hz5 := hX5.lt
           have hd5 := hda.below hb5
           have x0 : w5.cell? ⟨wr.heap.size, 0, none⟩ = some (.int .i64 x.k) := hX5.cell 0
           have x1 : w5.cell? ⟨wr.heap.size, 1, none⟩ = some (.int .i64 x.n) := hX5.cell 1
           have x2 : w5.cell? ⟨wr.heap.size, 2, none⟩ = some (.string ⟨x.s.toArray⟩) := hX5.cell 2
           have x3 : w5.cell? ⟨wr.heap.size, 3, none⟩ = some (.slice B1 x.is.len b1) := hX5.cell 3
           have hb6 : Below w2.heap.size w2 w5 := hb.trans ((below_new hb5).mono hb.size)
           clear p0 p1 p2 p3 hb5)
        | (go_at_call 11
           refine (hP.out w5 _ (.slice B1 x.is.len b1) hd5).mono ?_
           rintro e w7 ⟨y7, h70, h71, rfl, hb7⟩
           have hb8 : Below w2.heap.size w2 w7 := hb6.trans (hb7.mono hb6.size)
           clear x0 x1 x2 x3 hb7))
      · go_ret
        exact ⟨rfl, hb3.trans hb6⟩
      · go_roundw
        case rel => exact ⟨j + 1, y + y7, by omega, by go_num, by omega, by omega, rfl, hb8⟩
        case measure => simp [intOf]; omega
    · obtain rfl : j = N := by omega
      have hd2r := hd2.below hb
      have hbr : Went w wr := hb3.trans hb
      clear hd2 hb2
      rcases d2.out with h2 | ⟨i2, j2, h2⟩
      · rw [h2] at dM
        unfold APost at dM
        go_wp2_with (
          go_at_call 8
          (with_reducible refine (dM.out _).mono ?_)
          rintro e w5 ⟨v5, rfl, hd5, hb5⟩
          obtain ⟨A5, c5, rfl⟩ := hd5.read
          have r1 := hd5.at_ (i := 0) (x := ⟨6, 0, [], L⟩) rfl
          obtain ⟨g5, u5, rfl, hg5, s0, s1, s2, s3, hu5⟩ := r1
          obtain ⟨B5, b5, rfl⟩ := hu5.read
          simp only [Nat.reduceMul, Nat.reduceAdd] at s0 s1 s2 s3
          rw [hl6'.out] at s3 hu5
          have e1 : (RM.Dl.one ⟨6, 0, [], L⟩).len = 1 := rfl
          rw [e1]
          have hd6 := hd2r.below hb5
          have hb6 : Went w w5 := hbr.trans hb5
          clear hd5 hb5 e1 hd2r)
        have hg5' := hg5
        go_loopw [83] (fun i wr => ∃ jj : Nat, jj ≤ j ∧ i = .int .i64 jj ∧ Below w5.heap.size w5 wr) (fun i _ => j - (intOf i).toNat)
        case atStart => exact ⟨0, by omega, rfl, Below.refl _ _⟩
        case round =>
          obtain ⟨jj, hjj, rfl, hbx⟩ := hrel
          have ce : ∀ (b o : Nat), b < w5.heap.size → wr.cell? ⟨b, o, none⟩ = w5.cell? ⟨b, o, none⟩ := fun b o h => hbx.cell (p := ⟨b, o, none⟩) h
          have t0 := (ce _ _ hg5).trans s0
          have t1 := (ce _ _ hg5).trans s1
          have t2 := (ce _ _ hg5).trans s2
          have t3 := (ce _ _ hg5).trans s3
          have hg6 : g5 < wr.heap.size := Nat.lt_of_lt_of_le hg5 hbx.size
          have hux := hu5.below hbx
          have hdx := hd6.below hbx
          clear ce
          by_cases hlt2 : jj < j
          · obtain ⟨x, hx⟩ := L.at_some jj (by rw [hl6'.out]; exact hlt2)
            obtain ⟨g1, u1, rfl, hg1, p0, p1, p2, p3, hd1⟩ := hux.at_ hx
            obtain ⟨g2, u2, rfl, hg2, q0, q1, q2, q3, hd2⟩ := hdx.at_ hx
            have hx' := Lib.hid (same_any x)
            obtain ⟨B1, b1, rfl⟩ := hd1.read
            obtain ⟨B2, b2, rfl⟩ := hd2.read
            clear hx s0 s1 s2 s3
            go_wp2_with fail
            go_region_held3 (fun w' => w'.cell? ⟨g5, 3, none⟩ = some (.slice (some ⟨g1, 0, none⟩) j b5) ∧ w'.cell? ⟨g1, jj * 4, none⟩ = some (.int .i64 x.k) ∧ w'.cell? ⟨g1, jj * 4 + 1, none⟩ = some (.int .i64 x.n) ∧ w'.cell? ⟨g1, jj * 4 + 2, none⟩ = some (.string ⟨x.s.toArray⟩) ∧ w'.cell? ⟨g1, jj * 4 + 3, none⟩ = some (.slice B1 x.is.len b1)
                ∧ w'.cell? ⟨g2, jj * 4, none⟩ = some (.int .i64 x.k) ∧ w'.cell? ⟨g2, jj * 4 + 1, none⟩ = some (.int .i64 x.n) ∧ w'.cell? ⟨g2, jj * 4 + 2, none⟩ = some (.string ⟨x.s.toArray⟩) ∧ w'.cell? ⟨g2, jj * 4 + 3, none⟩ = some (.slice B2 x.is.len b2)) (first | go_keep | with_reducible exact kx)
              (first
                | (go_at_call 9
                   refine (hx'.out _ _ _ (.slice B1 x.is.len b1) (.slice B2 x.is.len b2) hd1.drew hd2.drew).mono ?_
                   rintro e w9 ⟨rfl, hb9⟩
                   have hb9' : Below wr.heap.size wr w9 := below_of_drew hb9
                   have ce : ∀ (b o : Nat), b < wr.heap.size → w9.cell? ⟨b, o, none⟩ = wr.cell? ⟨b, o, none⟩ := fun b o h => hb9'.cell (p := ⟨b, o, none⟩) h
                   have kx : w9.cell? ⟨g5, 3, none⟩ = some (.slice (some ⟨g1, 0, none⟩) j b5) ∧ w9.cell? ⟨g1, jj * 4, none⟩ = some (.int .i64 x.k) ∧ w9.cell? ⟨g1, jj * 4 + 1, none⟩ = some (.int .i64 x.n) ∧ w9.cell? ⟨g1, jj * 4 + 2, none⟩ = some (.string ⟨x.s.toArray⟩) ∧ w9.cell? ⟨g1, jj * 4 + 3, none⟩ = some (.slice B1 x.is.len b1)
                       ∧ w9.cell? ⟨g2, jj * 4, none⟩ = some (.int .i64 x.k) ∧ w9.cell? ⟨g2, jj * 4 + 1, none⟩ = some (.int .i64 x.n) ∧ w9.cell? ⟨g2, jj * 4 + 2, none⟩ = some (.string ⟨x.s.toArray⟩) ∧ w9.cell? ⟨g2, jj * 4 + 3, none⟩ = some (.slice B2 x.is.len b2) :=
                     ⟨(ce _ _ hg6).trans t3, (ce _ _ hg1).trans p0, (ce _ _ hg1).trans p1, (ce _ _ hg1).trans p2, (ce _ _ hg1).trans p3, (ce _ _ hg2).trans q0, (ce _ _ hg2).trans q1, (ce _ _ hg2).trans q2, (ce _ _ hg2).trans q3⟩
                   clear ce hb9))
            have hb10 : Below w5.heap.size w5 w9 := hbx.trans (hb9'.mono hbx.size)
            clear hb9' kx p0 p1 p2 p3 q0 q1 q2 q3 t0 t1 t2 t3
            go_wp2_with fail
            go_roundw
            case rel => exact ⟨jj + 1, by omega, by go_num, hb10⟩
            case measure => simp [intOf]; omega
          · obtain rfl : jj = j := by omega
            have hbx' : Went w wr := hb6.trans hbx
            clear s0 s1 s2 s3
            rcases d3.out with h3 | ⟨i3, j3, h3⟩
            · rw [h3] at dQ
              unfold APost at dQ
              have hfk := field_kind 0 0 0
              go_wp2_with (first
                | (go_at_call 8
                   (with_reducible refine (dQ.out _).mono ?_)
                   rintro e w7 ⟨v7, rfl, hd7, hb7⟩
                   obtain ⟨A7, c7, rfl⟩ := hd7.read
                   have e1 : (RM.Dl.one (RM.marked 4 ⟨6, 0, [], L⟩)).len = 1 := rfl
                   rw [e1] at hd7 ⊢
                   have hb8 : Went w w7 := hbx'.trans hb7
                   have ce7 : ∀ (b o : Nat), b < wr.heap.size → w7.cell? ⟨b, o, none⟩ = wr.cell? ⟨b, o, none⟩ := fun b o h => hb7.cell (p := ⟨b, o, none⟩) h
                   have v0 := (ce7 _ _ hg6).trans t0
                   have v1 := (ce7 _ _ hg6).trans t1
                   have v2 := (ce7 _ _ hg6).trans t2
                   have v3 := (ce7 _ _ hg6).trans t3
                   have hu7 := hux.below hb7
                   have hz7 : wr.heap.size ≤ w7.heap.size := hb7.size
                   clear ce7 t0 t1 t2 t3)
                | (go_at_call 12
                   refine (Fault_nil _).mono ?_
                   rintro e w8 ⟨rfl, hb9⟩
                   have hb10 : Went w w8 := hb8.trans hb9
                   have ce8 : ∀ (b o : Nat), b < w7.heap.size → w8.cell? ⟨b, o, none⟩ = w7.cell? ⟨b, o, none⟩ := fun b o h => hb9.cell (p := ⟨b, o, none⟩) h
                   have k0 := (ce8 _ _ (Nat.lt_of_lt_of_le hg6 hz7)).trans v0
                   have k1 := (ce8 _ _ (Nat.lt_of_lt_of_le hg6 hz7)).trans v1
                   have k2 := (ce8 _ _ (Nat.lt_of_lt_of_le hg6 hz7)).trans v2
                   have k3 := (ce8 _ _ (Nat.lt_of_lt_of_le hg6 hz7)).trans v3
                   have hu8 := hu7.below hb9
                   have hd8 := hd7.below hb9
                   clear ce8 v0 v1 v2 v3))
              obtain ⟨g7, u7, rfl, hg7, -, -, -, r3, hr7⟩ := hd8.at_ (i := 0) (x := RM.marked 4 ⟨6, 0, [], L⟩) rfl
              obtain ⟨B7, b7, rfl⟩ := hr7.read
              obtain ⟨g8, u8, rfl, hg8, -, -, r4, -, -⟩ := hr7.at_ (i := 0) (x := ⟨5, 0, [113, 117, 111, 116, 101], .nil⟩) rfl
              obtain ⟨_, u9, hgg, hg9, n0, n1, n2, n3, hr9⟩ := hr7.at_ (i := 1) (x := ⟨6, 0, [], L⟩) rfl
              cases hgg
              obtain ⟨B9, b9, rfl⟩ := hr9.read
              simp only [Nat.reduceMul, Nat.reduceAdd] at r3 r4 n0 n1 n2 n3
              have e2 : (RM.marked 4 ⟨6, 0, [], L⟩).is.len = 2 := rfl
              rw [e2] at r3
              simp only at n3 hr9
              rw [hl6'.out] at n3 hr9
              have r4' : w8.cell? ⟨g8, 2, none⟩ = some (.string ⟨#[113, 117, 111, 116, 101]⟩) := r4
              clear r4 e2
              have hx' := Lib.hid (same_any ⟨6, 0, [], L⟩)
              unfold SameOk dtv at hx'
              have hg10 : g5 < w8.heap.size := by have := hb9.size; omega
              go_region_held3 (fun w' => w'.cell? ⟨g7, 3, none⟩ = some (.slice (some ⟨g8, 0, none⟩) 2 b7) ∧ w'.cell? ⟨g8, 2, none⟩ = some (.string ⟨#[113, 117, 111, 116, 101]⟩)
                  ∧ w'.cell? ⟨g8, 4, none⟩ = some (.int .i64 6) ∧ w'.cell? ⟨g8, 5, none⟩ = some (.int .i64 0) ∧ w'.cell? ⟨g8, 6, none⟩ = some (.string ⟨#[]⟩) ∧ w'.cell? ⟨g8, 7, none⟩ = some (.slice B9 jj b9)
                  ∧ w'.cell? ⟨g5, 0, none⟩ = some (.int .i64 6) ∧ w'.cell? ⟨g5, 1, none⟩ = some (.int .i64 0) ∧ w'.cell? ⟨g5, 2, none⟩ = some (.string ⟨#[]⟩) ∧ w'.cell? ⟨g5, 3, none⟩ = some (.slice B5 jj b5)) (first | go_keep | with_reducible exact kx)
                (first
                  | (go_at_call 9
                     refine (hx'.out _ _ _ (.slice B9 jj b9) (.slice B5 jj b5) hr9.drew hu8.drew).mono ?_
                     rintro e w9 ⟨rfl, hb11⟩
                     have hb12 : Below w8.heap.size w8 w9 := below_of_drew hb11
                     have ce : ∀ (b o : Nat), b < w8.heap.size → w9.cell? ⟨b, o, none⟩ = w8.cell? ⟨b, o, none⟩ := fun b o h => hb12.cell (p := ⟨b, o, none⟩) h
                     have kx : w9.cell? ⟨g7, 3, none⟩ = some (.slice (some ⟨g8, 0, none⟩) 2 b7) ∧ w9.cell? ⟨g8, 2, none⟩ = some (.string ⟨#[113, 117, 111, 116, 101]⟩)
                         ∧ w9.cell? ⟨g8, 4, none⟩ = some (.int .i64 6) ∧ w9.cell? ⟨g8, 5, none⟩ = some (.int .i64 0) ∧ w9.cell? ⟨g8, 6, none⟩ = some (.string ⟨#[]⟩) ∧ w9.cell? ⟨g8, 7, none⟩ = some (.slice B9 jj b9)
                         ∧ w9.cell? ⟨g5, 0, none⟩ = some (.int .i64 6) ∧ w9.cell? ⟨g5, 1, none⟩ = some (.int .i64 0) ∧ w9.cell? ⟨g5, 2, none⟩ = some (.string ⟨#[]⟩) ∧ w9.cell? ⟨g5, 3, none⟩ = some (.slice B5 jj b5) :=
                       ⟨(ce _ _ hg7).trans r3, (ce _ _ hg8).trans r4', (ce _ _ hg8).trans n0, (ce _ _ hg8).trans n1, (ce _ _ hg8).trans n2, (ce _ _ hg8).trans n3, (ce _ _ hg10).trans k0, (ce _ _ hg10).trans k1, (ce _ _ hg10).trans k2, (ce _ _ hg10).trans k3⟩
                     clear ce hb11))
              all_goals
                go_wp2_with fail
                go_ret
                exact ⟨rfl, hb10.trans hb12⟩
            · rw [h3] at dQ
              unfold APost at dQ
              have hFt := Lib.hid (fun w' hT => Fault_at i3 j3 14 (by omega) (by omega) w' hT)
              have hfk := field_kind 14 i3 j3
              go_wp2_with (first
                | (go_at_call 8
                   (with_reducible refine (dQ.out _).mono ?_)
                   rintro e w7 ⟨rfl, hb7⟩
                   have hb8 : Went w w7 := hbx'.trans hb7
                   have hT7 : ETab w7 := hT.on hb8
                   unfold ekv)
                | (go_at_call 12
                   refine (hFt.out _ hT7).mono ?_
                   rintro e w8 ⟨rfl, hb9⟩))
              go_ret
              exact ⟨rfl, hb8.trans hb9⟩
      · rw [h2] at dM
        unfold APost at dM
        have hFt := Lib.hid (fun w' hT => Fault_at i2 j2 14 (by omega) (by omega) w' hT)
        have hfk := field_kind 14 i2 j2
        go_wp2_with (first
          | (go_at_call 8
             (with_reducible refine (dM.out _).mono ?_)
             rintro e w5 ⟨rfl, hb5⟩
             have hb6 : Went w w5 := hbr.trans hb5
             have hT5 : ETab w5 := hT.on hb6
             unfold ekv)
          | (go_at_call 12
             refine (hFt.out _ hT5).mono ?_
             rintro e w6 ⟨rfl, hb7⟩))
        go_ret
        exact ⟨rfl, hb6.trans hb7⟩

theorem cat2_list (s : ByteArray) : ((⟨#[40]⟩ : ByteArray) ++ s ++ ⟨#[10, 41]⟩).data.toList = 40 :: (s.data.toList ++ [10, 41]) := by
  simp [ByteArray.data_append]
theorem cat3_list (s : ByteArray) : ((⟨#[39, 40]⟩ : ByteArray) ++ s ++ ⟨#[10, 41]⟩).data.toList = 39 :: 40 :: (s.data.toList ++ [10, 41]) := by
  simp [ByteArray.data_append]
theorem cat2_size (s : ByteArray) : ((⟨#[40]⟩ : ByteArray) ++ s ++ ⟨#[10, 41]⟩).size = 1 + s.size + 2 := by
  rw [ByteArray.size_append, ByteArray.size_append]; rfl
theorem cat3_size (s : ByteArray) : ((⟨#[39, 40]⟩ : ByteArray) ++ s ++ ⟨#[10, 41]⟩).size = 2 + s.size + 2 := by
  rw [ByteArray.size_append, ByteArray.size_append]; rfl
theorem readLists_walk (s : ByteArray) (w : World) (hT : ETab w) :
    Calls Tryd.prog 4 #[.string s] w fun e w' => e = .returned (.bool true) ∧ Below w.heap.size w w' := by
  by_cases hs : 2000 < s.size
  · exact readLists_long s hs w hT
  have hs' : s.size ≤ 2000 := by omega
  have hA := rAll_any s (by omega)
  cases hR : RM.all (s.size + 1) .nil (RM.start s.data.toList) with
  | error x =>
    rw [hR] at hA
    exact readLists_bad s hs' w hT x hA
  | ok L =>
    rw [hR] at hA
    have hl := all_len hR
    rw [← size_len s] at hR
    have h2 := RM.all_list hR (((⟨#[40]⟩ : ByteArray) ++ s ++ ⟨#[10, 41]⟩).size + 1) (by rw [cat2_size, size_len]; omega)
    have h3 := RM.all_quoted hR (((⟨#[39, 40]⟩ : ByteArray) ++ s ++ ⟨#[10, 41]⟩).size + 1) (by rw [cat3_size, size_len]; omega)
    rw [← cat2_list] at h2
    rw [← cat3_list] at h3
    simp only [RM.Dl.len] at hl
    exact readLists_ok s hs' w hT L _ _ hA (rAll_any _ (by rw [cat2_size]; omega)) (rAll_any _ (by rw [cat3_size]; omega)) h2 h3 (by omega)
end Go.Proofs.YtfabafolbelhdaaDoor
