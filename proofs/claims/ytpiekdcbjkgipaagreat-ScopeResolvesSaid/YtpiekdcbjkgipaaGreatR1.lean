/- Package scope: Assigned; the reference of layer 15: SameInts. -/
import Derived.Test.YtpiekdcbjkgipaaGreatQ31
import Derived.Test.YtpiekdcbjkgipaaGreatQ30
import Derived.Test.YtpiekdcbjkgipaaGreatQ28
import Derived.Test.YtpiekdcbjkgipaaGreatQ34
import Derived.Test.YtpiekdcbjkgipaaGreatQ47
import Derived.Deep.Cut
import Derived.Deep.CutRange
import Derived.Deep.CutBlock
import Derived.Test.YtpiekdcbjkgipaaGreatQ38
namespace Go.Proofs.YtpiekdcbjkgipaaGreat
open Go.ChangeShapes Go.WideShapes Go.ChangeAt Go.RowKit Go.Deep
open TM (Tl Tm)

theorem asg_mem (t : Tm) (x : Int) : x ∈ SC.asg t ↔ x ∈ SC.st1 (TM.alpha t) := by
  unfold SC.asg SC.st1
  simp only
  rw [SC.sts_mem]
  by_cases hk : (TM.alpha t).k = 4
  · rw [if_pos hk, if_pos hk, SC.pti_mem]
    simp; exact or_comm
  · rw [if_neg hk, if_neg hk]
    simp
theorem asg_up (t : Tm) : SC.Up (SC.asg t) := by
  unfold SC.asg
  simp only
  refine SC.sts_up _ ?_
  by_cases hk : (TM.alpha t).k = 4
  · rw [if_pos hk]; exact SC.pti_up _ (by simp [SC.Up])
  · rw [if_neg hk]; simp [SC.Up]
def AsN (t : Tm) (w : World) (e : Ending) (w' : World) : Prop :=
  (TM.okt t = true → ∃ v, e = .returned v ∧ Own w' w.heap.size v (SC.asg t)) ∧ (TM.okt t = false → e = .returned (.slice none 0 0)) ∧ Went w w'
set_option maxRecDepth 100000 in
set_option maxHeartbeats 4000000 in
theorem sassigned_any (t : Tm) (w : World) (vp vi vk : Value) (hT : TmIn w t vp vi vk) (hB : TmBd t) (hBa : TmBd (TM.alpha t)) (hs : TM.sz (TM.alpha t).ks ≤ 5000) :
    Calls Tryz.prog 9 #[tmv t vp vi vk] w (AsN t w) := by
  have hC := Lib.hid (fun (w' : World) (hb : Below w.heap.size w w') => alpha_own t w' vp vi vk (hT.below hb) hB)
  have hup := asg_up t
  have hme := asg_mem t
  unfold AsN
  generalize SC.asg t = l at hup hme ⊢
  obtain ⟨P3, p3, rfl⟩ := hT.p.read
  obtain ⟨I7, q7, rfl⟩ := hT.d.read
  obtain ⟨A1, c1, rfl⟩ := hT.k.read
  have hM := Lies.made w 28 #[.int .i64 t.k, .int .i64 t.n, .string ⟨t.s.toArray⟩, .slice P3 t.ps.length p3, .int .i64 t.d.k, .int .i64 t.d.n, .string ⟨t.d.s.toArray⟩, .slice I7 t.d.is.len q7, .slice A1 t.ks.len c1]
  obtain ⟨W1, hW1⟩ : ∃ W1, w.alloc (.cells #[.int .i64 t.k, .int .i64 t.n, .string ⟨t.s.toArray⟩, .slice P3 t.ps.length p3, .int .i64 t.d.k, .int .i64 t.d.n, .string ⟨t.d.s.toArray⟩, .slice I7 t.d.is.len q7, .slice A1 t.ks.len c1] 28) = W1 := ⟨_, rfl⟩
  have hba : Below w.heap.size w W1 := by rw [← hW1]; exact (Below.refl _ w).alloc (Nat.le_refl _) _
  have hs1 : W1.heap.size = w.heap.size + 1 := by rw [← hW1]; simp
  rw [hW1] at hM
  have y0 := hM.cell 0
  have y1 := hM.cell 1
  have y2 := hM.cell 2
  have y3 := hM.cell 3
  have y4 := hM.cell 4
  have y5 := hM.cell 5
  have y6 := hM.cell 6
  have y7 := hM.cell 7
  have y8 := hM.cell 8
  simp only [List.getElem?_cons_succ, List.getElem?_cons_zero] at y0 y1 y2 y3 y4 y5 y6 y7 y8
  have hC1 := Lib.hid (hC.out _ hba)
  have hMh := Lib.hid hM
  have hbh := Lib.hid hba
  cases hok : TM.okt t
  · have hok' := Lib.hid hok
    unfold AlO zerov tmv at hC1
    unfold tmv
    clear hok hT hB hM hba hC hBa
    go_enter Tryz.func9, Tryz.ntmps9
    go_upto_region 2 with (
      go_at_call 16
      refine hC1.out.mono ?_
      rintro e w2 ⟨-, hno, hb2⟩
      obtain rfl := hno hok'.out
      have hM2 := hMh.out.below hb2 hMh.out.lt
      have d0 := hM2.cell 0
      have d1 := hM2.cell 1
      have d2 := hM2.cell 2
      have d3 := hM2.cell 3
      have d4 := hM2.cell 4
      have d5 := hM2.cell 5
      have d6 := hM2.cell 6
      have d7 := hM2.cell 7
      have d8 := hM2.cell 8
      simp only [List.getElem?_cons_succ, List.getElem?_cons_zero] at d0 d1 d2 d3 d4 d5 d6 d7 d8
      have g0 := hM2.free 0
      have g1 := hM2.free 1
      have g2 := hM2.free 2
      have g3 := hM2.free 3
      have g4 := hM2.free 4
      have g5 := hM2.free 5
      have g6 := hM2.free 6
      have g7 := hM2.free 7
      have g8 := hM2.free 8
      have hlt2 := hM2.lt
      have R2 := Lib.hid hb2
      clear hb2 hM2 hno)
    have hT3 := Lib.hid ((Turns.of_below (hbh.out.trans (Below.mono R2.out (by omega))) (fun _ => False)).then (nine_turns (Turns.refl (fun k => k = w.heap.size) w2) (g := w.heap.size) (fun _ => rfl) 0 (.int .i64 0) (.int .i64 0) (.string ⟨#[]⟩) (.slice none 0 0) (.int .i64 0) (.int .i64 0) (.string ⟨#[]⟩) (.slice none 0 0) (.slice none 0 0)) (fun i hi he => by omega))
    unfold nine at hT3
    simp only [Nat.zero_add] at hT3
    generalize hW3 : World.setCell _ _ _ = W3 at hT3 ⊢
    clear hW3 d0 d1 d2 d3 d4 d5 d6 d7 d8 g0 g1 g2 g3 g4 g5 g6 g7 g8 R2 hlt2 y0 y1 y2 y3 y4 y5 y6 y7 y8
    go_wp2_with fail
    go_ret
    exact ⟨(fun h => by cases h), fun _ => rfl, hT3.out.below (Nat.le_refl _) (fun _ h => h.elim)⟩
  · have hok' := Lib.hid hok
    unfold AlO tmv at hC1
    unfold tmv
    clear hok hT hB hM hba hC
    generalize TM.alpha t = a at hme hBa hs hC1
    have hA := Lib.hid (fun (w0 w' : World) (q : Nat) (F : Int → Bool) (a1 a2 a3 : Value) (hi : TmIn w0 a a1 a2 a3) (hb : Below w0.heap.size w0 w') (hq : w0.heap.size ≤ q) (hL : Ls w' q 0 F) => ladds_any a w0 w' q 0 F a1 a2 a3 hi hBa hb hq hL (by omega))
    have hR := Lib.hid (fun (w' : World) (q n : Nat) (F : Int → Bool) (h : Ls w' q n F) (hn : n ≤ 1000000) => rising_any w' q n F h hn)
    have hsn := Lib.hid (show 0 + TM.sz a.ks + 1 ≤ 1000000 by omega)
    have hmm := @run_makeMap Tryz.prog
    have hU := Lib.hid (And.intro hup hme)
    unfold tmv at hA
    clear hup hme hs
    go_enter Tryz.func9, Tryz.ntmps9
    go_upto_region 2 with (
      go_at_call 16
      refine hC1.out.mono ?_
      rintro e w2 ⟨hyes, -, hb2⟩
      obtain ⟨vp6, vi6, vk6, rfl, D, S, hTo, hS, hD, -⟩ := hyes hok'.out
      obtain ⟨P6, m6, p6, rfl⟩ : ∃ A m c, vp6 = .slice A m c := by obtain ⟨A, c, e⟩ := hTo.tmin.p.read; exact ⟨_, _, _, e⟩
      obtain ⟨I6, l7, q6, rfl⟩ : ∃ A m c, vi6 = .slice A m c := by obtain ⟨A, c, e⟩ := hTo.tmin.d.read; exact ⟨_, _, _, e⟩
      obtain ⟨K6, n6, r6, rfl⟩ : ∃ A m c, vk6 = .slice A m c := by obtain ⟨A, c, e⟩ := hTo.tmin.k.read; exact ⟨_, _, _, e⟩
      have hM2 := hMh.out.below hb2 hMh.out.lt
      have d0 := hM2.cell 0
      have d1 := hM2.cell 1
      have d2 := hM2.cell 2
      have d3 := hM2.cell 3
      have d4 := hM2.cell 4
      have d5 := hM2.cell 5
      have d6 := hM2.cell 6
      have d7 := hM2.cell 7
      have d8 := hM2.cell 8
      simp only [List.getElem?_cons_succ, List.getElem?_cons_zero] at d0 d1 d2 d3 d4 d5 d6 d7 d8
      have g0 := hM2.free 0
      have g1 := hM2.free 1
      have g2 := hM2.free 2
      have g3 := hM2.free 3
      have g4 := hM2.free 4
      have g5 := hM2.free 5
      have g6 := hM2.free 6
      have g7 := hM2.free 7
      have g8 := hM2.free 8
      have hlt2 := hM2.lt
      have R2 := Lib.hid (And.intro hb2 (And.intro hTo (And.intro hS (And.intro hD hM2))))
      clear hb2 hM2 hyes hTo hS hD)
    obtain ⟨hb2, hTo, hS, hD, hM2⟩ := R2.out
    have hTn0 := nine_turns (Turns.refl (fun k => k = w.heap.size) w2) (g := w.heap.size) (fun _ => rfl) 0 (.int .i64 a.k) (.int .i64 a.n) (.string ⟨a.s.toArray⟩) (.slice P6 m6 p6) (.int .i64 a.d.k) (.int .i64 a.d.n) (.string ⟨a.d.s.toArray⟩) (.slice I6 l7 q6) (.slice K6 n6 r6)
    have hM30 := nine_res hM2 w.heap.size rfl (.int .i64 a.k) (.int .i64 a.n) (.string ⟨a.s.toArray⟩) (.slice P6 m6 p6) (.int .i64 a.d.k) (.int .i64 a.d.n) (.string ⟨a.d.s.toArray⟩) (.slice I6 l7 q6) (.slice K6 n6 r6)
    unfold nine at hTn0 hM30
    simp only [Nat.zero_add] at hTn0 hM30
    generalize hW3 : World.setCell _ _ _ = W3 at hTn0 hM30 ⊢
    have hbs := hbh.out.size
    have hb23 := hb2.size
    have hT3 := (hTo.turns hTn0 (fun g _ hs he => by have := hS g hs; omega) (fun g _ hs he => by have := hD g hs; omega)).tmin
    have hb3 : Below w.heap.size w W3 := ((Turns.of_below (hbh.out.trans (Below.mono hb2 (by omega))) (fun _ => False)).then hTn0 (fun i hi he => by omega)).below (Nat.le_refl _) (fun _ h => h.elim)
    have hL4 := Ls.made W3
    have hb4 : Below W3.heap.size W3 (W3.alloc (.map #[] 0)) := (Below.refl _ W3).alloc (Nat.le_refl _) _
    obtain ⟨W4, hW4⟩ : ∃ W4, W3.alloc (.map #[] 0) = W4 := ⟨_, rfl⟩
    rw [hW4] at hL4 hb4
    have hM4 := hM30.below hb4 hM30.lt
    have z0 := hM4.cell 0
    have z1 := hM4.cell 1
    have z2 := hM4.cell 2
    have z3 := hM4.cell 3
    have z4 := hM4.cell 4
    have z5 := hM4.cell 5
    have z6 := hM4.cell 6
    have z7 := hM4.cell 7
    have z8 := hM4.cell 8
    simp only [List.getElem?_cons_succ, List.getElem?_cons_zero] at z0 z1 z2 z3 z4 z5 z6 z7 z8
    have hAd := Lib.hid (hA.out W3 W4 W3.heap.size _ _ _ _ hT3 hb4 (Nat.le_refl _) hL4)
    have hb34 := Lib.hid (hb3.trans (hb4.mono hb3.size))
    have hZ4 := Lib.hid hb34.out.size
    have hZ3 := Lib.hid hb3.size
    clear hW3 hb2 hTo hS hD hM2 hTn0 hM30 hT3 hb3 hL4 hb4 hM4 R2 hlt2 hbs hb23 d0 d1 d2 d3 d4 d5 d6 d7 d8 g0 g1 g2 g3 g4 g5 g6 g7 g8 y0 y1 y2 y3 y4 y5 y6 y7 y8
    go_wp2_with (first
      | (go_at_call 24
         refine hAd.out.mono ?_
         rintro e w5 ⟨rfl, hL5, hT5⟩
         have hb5 := Lib.hid (hb34.out.trans (hT5.below hb34.out.size (fun g hg => by have := hZ3.out; omega)))
         have hL5' := Lib.hid hL5
         clear hL5 hT5)
      | (go_at_call 25
         refine (hR.out _ _ _ _ hL5'.out hsn.out).mono ?_
         rintro e w6 ⟨v6, l6, rfl, hO6, hp6, hm6, hb6⟩
         have R6 := Lib.hid (And.intro hO6 (And.intro hp6 (And.intro hm6 (Below.trans hb5.out (Below.mono hb6 hb5.out.size)))))
         clear hO6 hp6 hm6 hb6))
    go_ret
    obtain ⟨hO6, hp6, hm6, hb6⟩ := R6.out
    have el : l6 = l := SC.up_ext hp6 hU.out.1 (fun x => by rw [hm6 x, hU.out.2 x]; simp [orl])
    subst el
    exact ⟨fun _ => ⟨_, rfl, hO6.base hb5.out.size⟩, (fun h => by cases h), hb6⟩
set_option maxRecDepth 100000 in
set_option maxHeartbeats 4000000 in
theorem same_ints (w : World) (u v : Value) (l m : List Int) (h : PIn w u l) (k : PIn w v m) :
    Calls Tryz.prog 14 #[u, v] w fun e w' => e = .returned (.bool (decide (l = m))) ∧ Went w w' := by
  obtain ⟨A, c, rfl⟩ := h.read
  obtain ⟨B, d, rfl⟩ := k.read
  have hl1 := h.len
  have hl2 := k.len
  obtain ⟨L, hL⟩ : ∃ x, l.length = x := ⟨_, rfl⟩
  obtain ⟨M, hM⟩ : ∃ x, m.length = x := ⟨_, rfl⟩
  rw [hL] at h hl1 ⊢
  rw [hM] at k hl2 ⊢
  have hL' := Lib.hid hL
  have hM' := Lib.hid hM
  by_cases hLM : L = M
  · subst hLM
    clear hL hM
    have h' := Lib.hid h
    have k' := Lib.hid k
    clear h k
    go_enter Tryz.func14, Tryz.ntmps14
    go_wp2_with fail
    go_loopw [5] (fun i wr => ∃ (j : Nat), j ≤ L ∧ i = .int .i64 j ∧ Hid (l.take j = m.take j) ∧ Below w.heap.size w wr) (fun i _ => L - (RowKit.intOf i).toNat)
    case atStart => exact ⟨0, Nat.zero_le _, rfl, Lib.hid (by simp), Below.refl _ _⟩
    case round =>
      obtain ⟨j, hj, rfl, he, hbr⟩ := hrel
      by_cases hlt : j < L
      · have hx : l[j]? = some (l[j]'(by rw [hL'.out]; exact hlt)) := List.getElem?_eq_getElem _
        have hy : m[j]? = some (m[j]'(by rw [hM'.out]; exact hlt)) := List.getElem?_eq_getElem _
        obtain ⟨x, hxe⟩ : ∃ x, l[j]'(by rw [hL'.out]; exact hlt) = x := ⟨_, rfl⟩
        obtain ⟨y, hye⟩ : ∃ x, m[j]'(by rw [hM'.out]; exact hlt) = x := ⟨_, rfl⟩
        rw [hxe] at hx
        rw [hye] at hy
        obtain ⟨b1, o1, rfl, hb1, p1⟩ := (h'.out.below hbr).cell hx
        obtain ⟨b2, o2, rfl, hb2, p2⟩ := (k'.out.below hbr).cell hy
        have hx' := Lib.hid hx
        have hy' := Lib.hid hy
        have hbr' := Lib.hid hbr
        clear hx hy hxe hye hbr
        by_cases hxy : x = y
        · have e1 : (x != y) = false := by simp [hxy]
          have hxy' := Lib.hid hxy
          clear hxy
          go_upto_region 6 with fail
          go_region
          go_wp2_with fail
          go_roundw
          case rel => exact ⟨j + 1, by omega, by go_num, Lib.hid (by rw [List.take_add_one, List.take_add_one, hx'.out, hy'.out, he.out, hxy'.out]), below_drew1 hbr'.out⟩
          case measure => simp [RowKit.intOf]; omega
        · have e1 : (x != y) = true := by simp [hxy]
          have hxy' := Lib.hid hxy
          clear hxy
          go_upto_region 6 with fail
          go_region
          go_wp2_with fail
          go_ret
          exact ⟨ret_b (by
            symm
            rw [decide_eq_false_iff_not]
            intro e
            have h1 := hx'.out
            rw [e, hy'.out] at h1
            exact hxy'.out (Option.some.inj h1).symm), below_drew1 hbr'.out⟩
      · obtain rfl : j = L := by omega
        have e1 : l.take j = l := by rw [← hL'.out]; exact List.take_length
        have e2 : m.take j = m := by rw [← hM'.out]; exact List.take_length
        rw [e1, e2] at he
        have hbr' := Lib.hid hbr
        clear e1 e2 hbr
        go_wp2_with fail
        go_ret
        exact ⟨ret_b (by symm; rw [decide_eq_true_eq]; exact he.out), hbr'.out⟩
  · have e0 : ((L : Int) != (M : Int)) = true := by simp; omega
    have hLM' := Lib.hid hLM
    clear hL hM hLM h k
    go_enter Tryz.func14, Tryz.ntmps14
    go_wp2_with fail
    go_ret
    exact ⟨ret_b (by symm; rw [decide_eq_false_iff_not]; intro e; exact hLM'.out (by rw [← hL'.out, ← hM'.out, e])), Below.refl _ _⟩
end Go.Proofs.YtpiekdcbjkgipaaGreat

/- The reference of layer 15: put, a number into a rising list, once. -/
namespace Go.Proofs.YtpiekdcbjkgipaaGreat
open Go.ChangeShapes Go.WideShapes Go.ChangeAt Go.RowKit Go.Deep

namespace SC
/-- those ahead of the first that is at least n -/
theorem pti_split (n : Int) : ∀ (l : List Int) (j : Nat), (∀ x ∈ l.take j, x < n) → pti l n = l.take j ++ pti (l.drop j) n
  | [], j, _ => by simp
  | a :: r, 0, _ => by simp
  | a :: r, j + 1, h => by
    have ha : a < n := h a (by simp)
    rw [pti, if_pos ha, List.take_succ_cons, List.drop_succ_cons, pti_split n r j (fun x hx => h x (by simp [hx]))]
    rfl
theorem pti_here {l : List Int} {n : Int} {j : Nat} (h : ∀ x ∈ l.take j, x < n) (hn : l[j]? = some n) : pti l n = l := by
  rw [pti_split n l j h]
  obtain ⟨hj, hx⟩ := List.getElem?_eq_some_iff.1 hn
  have e : l.drop j = n :: l.drop (j + 1) := by rw [List.drop_eq_getElem_cons hj, hx]
  have e2 : pti (n :: l.drop (j + 1)) n = n :: l.drop (j + 1) := by simp [pti]
  rw [e, e2, ← e, List.take_append_drop]
theorem pti_new {l : List Int} {n : Int} {j : Nat} (h : ∀ x ∈ l.take j, x < n) (hn : ∀ x, l[j]? = some x → n < x) : pti l n = l.take j ++ (n :: l.drop j) := by
  rw [pti_split n l j h]
  congr 1
  cases hd : l.drop j with
  | nil => rfl
  | cons a r =>
    have hj : l[j]? = some a := by
      have := congrArg (fun z => z[0]?) hd
      simpa using this
    have := hn a hj
    rw [pti, if_neg (by omega), if_neg (by omega)]
end SC
section
variable {w w' : World} {B : Nat} {v x : Value} {l : List Int}
/-- one number put behind the first a of one's own row, whose room is cut off there: always a new row -/
theorem run_append_icut (t ty : TypeId) (ht : Tryz.prog.underlying t = some (.slice 3)) {A : Option Addr} {n c a : Nat} (h : Own w B (.slice A n c) l) (ha : a ≤ l.length) {B' : Nat} {S : Int} (k : w.ownsRow B' 3 1 x 1 [.int .i64 S]) (hlen : l.length ≤ 1000000) (hB : B ≤ w.heap.size) :
    ∃ v' w', (Builtin.append_ #[t, t] ty #[.slice A a a, x]).run Tryz.prog w = .ok v' w' ∧ w'.ownsRow B 3 1 v' (a + 1) ((l.take a).map (.int .i64) ++ [.int .i64 S]) ∧ w.grownBy w' none ∧ v'.ownBlock = some w.heap.size := by
  obtain ⟨i0, hi, hz0, hz1, hz2⟩ := info_parts Tryz.infoInt
  rcases k.2 with ⟨_, h0⟩ | ⟨gx, capx, curx, rfl, -, hgx, -, -, -, -⟩
  · cases h0
  have hnews : ∀ j u, ([Value.int .i64 S])[j]? = some u → w.cell? ((⟨gx, 0, none⟩ : Addr).add j) = some u := World.ownsRow.cells k rfl
  have mk : ∀ old, old < a + 1 → (w.drew.alloc (.cells (((l.take a).map (Value.int .i64)).toArray ++ [Value.int .i64 S].toArray ++ Builtin.zeroCells (Value.int .i64 0).cells (grownCap w (a + 1) old 3 - (a + 1))) 3)).ownsRow B 3 1 (.slice (some ⟨w.heap.size, 0, none⟩) (a + 1) (grownCap w (a + 1) old 3)) (a + 1) ((l.take a).map (.int .i64) ++ [.int .i64 S]) := by
    intro old ho
    have hge := grownCap_ge w (a + 1) old 3
    have hcm : grownCap w (a + 1) old 3 ≤ maxLen := grownCap_le_maxLen w (a + 1) old _ (by unfold maxLen; omega)
    have hl : ((l.take a).map (Value.int .i64)).length = a := by simp; omega
    refine ⟨by rw [List.length_append, hl]; simp, .inr ⟨w.heap.size, _, _, rfl, hB, heap_alloc_new w.drew _, hge, hcm, ?_, ?_⟩⟩
    · simp only [Array.size_append, List.size_toArray, size_zeroCells, hl, List.length_singleton]
      have : (Value.int .i64 0).cells.size = 1 := rfl
      rw [this]
      omega
    · have hl2 : ((l.take a).map (Value.int .i64) ++ [Value.int .i64 S]).length = (a + 1) * 1 := by rw [List.length_append, hl]; simp
      simp only [Array.toList_append]
      exact List.take_left' hl2
  have hgr : ∀ o, w.grownBy (w.drew.alloc o) none := fun o => ⟨rfl, rfl, rfl, by simp, fun j hj _ => by rw [Below.heap_alloc w.drew o j hj]; rfl⟩
  rcases h.2 with ⟨hnil, h0⟩ | ⟨g, cap, cur, hv, _, hg, hnc, _⟩
  · cases hnil
    have hl0 : l = [] := List.eq_nil_of_length_eq_zero (by omega)
    subst hl0
    obtain rfl : a = 0 := by simpa using ha
    have hr := run_append_nil (P := Tryz.prog) w t ty 3 i0 _ ht hi hz0 ⟨gx, 0, none⟩ 1 capx [.int .i64 S] (by rw [hz1]; rfl) hnews (by omega) (by omega) (by omega)
    have hm := mk 0 (by omega)
    simp only [List.take_nil, List.map_nil, List.nil_append, Array.empty_append, Nat.zero_add] at hm ⊢
    exact ⟨_, _, hr, hm, hgr _, rfl⟩
  · cases hv
    have holds : ∀ j u, ((l.take a).map (Value.int .i64))[j]? = some u → w.cell? ((⟨g, 0, none⟩ : Addr).add j) = some u := by
      intro j u hu
      refine World.ownsRow.cells h (g := g) rfl j u ?_
      have hj : j < a := by have := (List.getElem?_eq_some_iff.1 hu).1; simp at this; omega
      rw [List.getElem?_map, List.getElem?_take_of_lt hj] at hu
      rw [List.getElem?_map]; exact hu
    have hr := run_append_grow (P := Tryz.prog) w t ty 3 i0 _ ht hi hz0 ⟨g, 0, none⟩ a a ((l.take a).map (.int .i64)) (by rw [hz1]; simp; omega) holds ⟨gx, 0, none⟩ 1 capx [.int .i64 S] (by rw [hz1]; rfl) hnews (by omega) (by omega) (growslice_fits (by omega) (by rw [hz2]; omega))
    exact ⟨_, _, hr, mk a (by omega), hgr _, rfl⟩
theorem wp_append_icut {o : Oper} {a : Act} {K : Act → World → Prop} {Q : Exit → Act → World → Prop} (s u : Operand) (t : TypeId)
    (ho : o.op = .call { callee := .builtin .append, args := #[s, u], argTypes := #[t, t] }) (ht : Tryz.prog.underlying t = some (.slice 3)) {A : Option Addr} {n c m : Nat} {B' : Nat} {S : Int}
    (hs : a.eval s = .slice A m m) (hu : a.eval u = x) (h : Own w B (.slice A n c) l) (ha : m ≤ l.length) (k : w.ownsRow B' 3 1 x 1 [.int .i64 S]) (hlen : l.length ≤ 1000000) (hB : B ≤ w.heap.size)
    (hq : ∀ v' w', w'.ownsRow B 3 1 v' (m + 1) ((l.take m).map (.int .i64) ++ [.int .i64 S]) → w.grownBy w' none → v'.ownBlock = some w.heap.size → K (a.put o.dst v') w') : o.wp Tryz.prog a w K Q := by
  obtain ⟨v', w', hr, h2, h3, h4⟩ := run_append_icut t o.type ht h ha k hlen hB
  unfold Oper.wp execOp
  simp only [ho, resolve, invoke, builtin, Sem.run_bind, Sem.run_pure, Result.andThen_ok, List.map_toArray, List.map_cons, List.map_nil, hs, hu, hr]
  exact hq v' w' h2 h3 h4
theorem wpList_append_icut {ops : Array Oper} {rest : List Oper} {o : Oper} {a : Act} {Q : Exit → Act → World → Prop} (hgd : o.guard = none) (s u : Operand) (t : TypeId)
    (ho : o.op = .call { callee := .builtin .append, args := #[s, u], argTypes := #[t, t] }) (ht : Tryz.prog.underlying t = some (.slice 3)) {A : Option Addr} {n c m : Nat} {B' : Nat} {S : Int}
    (hs : a.eval s = .slice A m m) (hu : a.eval u = x) (h : Own w B (.slice A n c) l) (ha : m ≤ l.length) (k : w.ownsRow B' 3 1 x 1 [.int .i64 S]) (hlen : l.length ≤ 1000000) (hB : B ≤ w.heap.size)
    (hq : ∀ v' w', w'.ownsRow B 3 1 v' (m + 1) ((l.take m).map (.int .i64) ++ [.int .i64 S]) → w.grownBy w' none → v'.ownBlock = some w.heap.size → wpList Tryz.prog ops Q rest (a.put o.dst v') w') : wpList Tryz.prog ops Q (o :: rest) a w :=
  wpList_plain hgd fun _ hK => wp_append_icut s u t ho ht hs hu h ha k hlen hB fun v' w' h2 h3 h4 => hK _ _ (hq v' w' h2 h3 h4)
end
/-- a list as put takes it: one's own row, nil where it has nothing -/
def Pl (w : World) (v : Value) (l : List Int) : Prop := Own w 0 v l ∧ (l = [] → v = .slice none 0 0)
set_option maxRecDepth 100000 in
set_option maxHeartbeats 8000000 in
theorem rput_any (w : World) (v : Value) (l : List Int) (n : Int) (h : Pl w v l) (hlen : l.length ≤ 100000) :
    Calls Tryz.prog 51 #[v, .int .i64 n] w fun e w' => ∃ v', e = .returned v' ∧ Pl w' v' (SC.pti l n) ∧ Went w w' := by
  by_cases h0 : l = []
  · obtain rfl := h.2 h0
    subst h0
    have hO := h.1
    clear h
    go_enter Tryz.func51, Tryz.ntmps51
    go_wp2_with fail
    refine wp_loop_rounds 1 ?_
    rw [rounds_succ]
    go_upto_region 6 with fail
    have hlo := Lib.hid (show ∀ x ∈ ([] : List Int).take 0, x < n by simp)
    have hno := Lib.hid (show ∀ x, ([] : List Int)[0]? = some x → n < x by simp)
    have hlen' := Lib.hid hlen
    have hL' := Lib.hid (show ([] : List Int).length = 0 from rfl)
    have hdp := Lib.hid (show PIn (w.alloc (.cells #[] 3)) (.slice none 0 0) (([] : List Int).drop 0) from PIn.nil _)
    have hO' := Lib.hid hO
    have tt0 : True := trivial
    clear hlen hO
    go_wp2_with (first
      | (clear tt0
         at_builtin
         refine wpList_append_pin (B := w.heap.size) (v := .slice (some ⟨w.heap.size, 0, none⟩) 0 0) (l := []) (x := .slice none 0 0) (lx := ([] : List Int).drop 0) rfl _ _ 22 rfl Tryz.underlying22 rfl rfl (Own.zero w (Nat.le_refl _)) hdp.out (by have := hlen'.out; simp only [List.length_nil, List.length_drop]; omega) (by simp) ?_
         intro v3 w3 hO3 hg3 ho3
         have hT3 : Turns (fun _ => False) w w3 := (((Turns.refl (fun b => (Value.slice (some ⟨w.heap.size, 0, none⟩) 0 0).ownBlock = some b) w).alloc (.cells #[] 3)).then (Turns.appended hg3) (fun _ _ h => h)).mono (fun b hb h => by
           have : w.heap.size = b := by simpa [Value.ownBlock] using h
           omega)
         have hb3 : Below w.heap.size w w3 := hT3.below (Nat.le_refl _) (fun _ h => h.elim)
         rw [List.nil_append] at hO3
         obtain ⟨B3, m3, c3, rfl⟩ : ∃ B m c, v3 = .slice B m c := by obtain ⟨B, c, e, -⟩ := hO3.read; exact ⟨_, _, _, e⟩
         have hO3' := Lib.hid hO3
         have hb3' := Lib.hid hb3
         have tt1 : True := trivial
         clear hO3 hg3 ho3 hT3 hb3)
      | (clear tt1
         at_builtin
         refine wpList_append_icut (w := w3.alloc (.cells #[.int .i64 n] 3)) (B := 0) (A := none) (m := 0) (x := .slice (some ⟨w3.heap.size, 0, none⟩) 1 1) rfl _ _ 22 rfl Tryz.underlying22 rfl rfl ((hO'.out.below hb3'.out).below ((Below.refl _ w3).alloc (Nat.le_refl _) _)) (by simp) (own_one (B := 0) (e := 3) (sz := 1) w3 #[.int .i64 n] rfl (Nat.zero_le _)) (by have := hlen'.out; omega) (Nat.zero_le _) ?_
         intro v4 w4 hO4 hg4 hv4
         have hb4 : Below w3.heap.size w3 w4 := (((Turns.refl (fun _ => False) w3).alloc (.cells #[.int .i64 n] 3)).grown hg4 (fun _ h _ => by cases h)).below (Nat.le_refl _) (fun _ h => h.elim)
         obtain ⟨B4, c4, rfl, -⟩ := own_read hO4
         have hO4' := Lib.hid hO4
         have hb4' := Lib.hid (Below.trans hb3'.out (Below.mono hb4 hb3'.out.size))
         have hO5' := Lib.hid (hO3'.out.below hb4)
         have hv4' : ∀ b, (Value.slice B4 (0 + 1) c4).ownBlock = some b → w.heap.size ≤ b := fun b hb => by
           rw [hv4] at hb
           have h1 := hb3'.out.size
           simp at hb; omega
         have hv4'' := Lib.hid hv4'
         have tt2 : True := trivial
         clear hO4 hg4 hv4 hb4 hv4')
      | (clear tt2
         at_builtin
         refine wpList_append_row (B := 0) (v := .slice B4 (0 + 1) c4) (.int .i64 0) 8 Tryz.infoInt rfl (by decide) rfl _ _ 22 rfl Tryz.underlying22 rfl rfl hO4'.out hO5'.out (fun u hu => by obtain ⟨_, _, rfl⟩ := List.mem_map.1 hu; rfl) (by have := hlen'.out; have := hL'.out; simp only [List.length_nil, List.length_drop]; omega) (by decide) (Nat.zero_le _) ?_
         intro v6 w6 hO6 hg6 hv6
         have hb6 := Lib.hid (((Turns.of_below hb4'.out (fun _ => False)).grown hg6 (fun k hk hlt => by have := hv4''.out k hk; omega)).below (Nat.le_refl _) (fun _ h => h.elim))
         have hO6' := Lib.hid hO6
         clear hO6 hg6 hv6))
    go_ret
    refine ⟨_, rfl, ⟨?_, fun e => ?_⟩, hb6.out⟩
    · have e6 := hO6'.out
      rw [SC.pti_new hlo.out hno.out]
      unfold Own
      have el : (([] : List Int).take 0 ++ (n :: ([] : List Int).drop 0)).length = 0 + 1 + (([] : List Int).drop 0).length := by have := hL'.out; simp <;> omega
      rw [el, List.map_append, List.map_cons]
      rw [List.append_assoc] at e6
      exact e6
    · rw [SC.pti_new hlo.out hno.out] at e
      simp at e
  · obtain ⟨hO, -⟩ := h
    obtain ⟨L, hL⟩ : ∃ x, l.length = x := ⟨_, rfl⟩
    have hL0 : 0 < L := by rw [← hL]; exact List.length_pos_iff.2 h0
    obtain ⟨A, c, rfl, -⟩ := hO.read
    obtain ⟨g, rfl, -, hg, -⟩ := hO.cell (j := 0) (by omega)
    have hcap : L ≤ c ∧ c ≤ maxLen := by
      rcases hO.2 with ⟨e, _⟩ | ⟨g', cap, cur, e, _, _, h1, h2, _⟩
      · cases e
      · injection e with _ _ e3
        subst e3
        exact ⟨by omega, h2⟩
    unfold maxLen at hcap
    rw [hL] at hO ⊢
    have hOr := hO
    unfold Own at hOr
    rw [hL] at hOr
    have hO' := Lib.hid hO
    have hOr' := Lib.hid hOr
    have hL' := Lib.hid hL
    have hlen' := Lib.hid hlen
    obtain ⟨hc1, hc2⟩ := hcap
    have hL5 : L ≤ 100000 := by omega
    clear h0 hO hOr hL hlen
    go_enter Tryz.func51, Tryz.ntmps51
    go_wp2_with fail
    go_loopw [5] (fun i wr => ∃ (j : Nat), j ≤ L ∧ i = .int .i64 j ∧ Hid (∀ x ∈ l.take j, x < n) ∧ wr = w) (fun i _ => L - (intOf i).toNat)
    case atStart => exact ⟨0, Nat.zero_le _, rfl, Lib.hid (by simp), rfl⟩
    case round =>
      obtain ⟨j, hj, rfl, hlo, rfl⟩ := hrel
      by_cases hlt : j < L
      · have hx : l[j]? = some (l[j]'(by rw [hL'.out]; exact hlt)) := List.getElem?_eq_getElem _
        obtain ⟨x, hxe⟩ : ∃ x, l[j]'(by rw [hL'.out]; exact hlt) = x := ⟨_, rfl⟩
        rw [hxe] at hx
        have p1 : wr.cell? ⟨g, j, none⟩ = some (.int .i64 x) := by
          rw [World.ownsRow.cellAt hOr'.out j (by omega), List.getElem?_map, hx]; rfl
        have hx' := Lib.hid hx
        clear hx hxe
        by_cases h1 : x < n
        · go_wp2_with fail
          go_roundw
          case rel => exact ⟨j + 1, by omega, by go_num, Lib.hid (by
            intro y hy
            rw [List.take_add_one, hx'.out] at hy
            rcases List.mem_append.1 hy with hy | hy
            · exact hlo.out y hy
            · simp at hy; omega), trivial⟩
          case measure => simp [intOf]; omega
        · by_cases h2 : x = n
          · subst h2
            go_wp2_with fail
            go_ret
            exact ⟨_, rfl, ⟨by rw [SC.pti_here hlo.out hx'.out]; exact hO'.out, fun e => by
              rw [SC.pti_here hlo.out hx'.out] at e
              rw [← hL'.out, e] at hL0; simp at hL0⟩, Below.refl _ _⟩
          · have h3 : n < x := by omega
            have e2 : (x == n) = false := by rw [beq_eq_false_iff_ne]; exact h2
            go_upto_region 6 with fail
            have hno := Lib.hid (show ∀ y, l[j]? = some y → n < y from fun y hy => by rw [hx'.out] at hy; cases hy; exact h3)
            have hdp0 : PIn wr (.slice (some ⟨g, j, none⟩) (L - j) (c - j)) (l.drop j) := by
              have hp := hO'.out.pin
              refine ⟨_, _, by rw [List.length_drop, hL'.out], by rw [List.length_drop, hL'.out]; omega, g, j, fun _ => ⟨rfl, hg⟩, fun i x hx => ?_⟩
              rw [List.getElem?_drop] at hx
              exact hp.cell_at hx
            have hdp := Lib.hid (hdp0.below ((Below.refl _ wr).alloc (Nat.le_refl _) (.cells #[] 3)))
            have tt0 : True := trivial
            clear hdp0 p1
            go_wp2_with (first
              | (clear tt0
                 at_builtin
                 refine wpList_append_pin (B := wr.heap.size) (v := .slice (some ⟨wr.heap.size, 0, none⟩) 0 0) (l := []) (x := .slice (some ⟨g, j, none⟩) (L - j) (c - j)) (lx := l.drop j) rfl _ _ 22 rfl Tryz.underlying22 rfl rfl (Own.zero wr (Nat.le_refl _)) hdp.out (by have := hlen'.out; simp only [List.length_nil, List.length_drop]; omega) (by simp) ?_
                 intro v3 w3 hO3 hg3 ho3
                 have hT3 : Turns (fun _ => False) wr w3 := (((Turns.refl (fun b => (Value.slice (some ⟨wr.heap.size, 0, none⟩) 0 0).ownBlock = some b) wr).alloc (.cells #[] 3)).then (Turns.appended hg3) (fun _ _ h => h)).mono (fun b hb h => by
                   have : wr.heap.size = b := by simpa [Value.ownBlock] using h
                   omega)
                 have hb3 : Below wr.heap.size wr w3 := hT3.below (Nat.le_refl _) (fun _ h => h.elim)
                 rw [List.nil_append] at hO3
                 obtain ⟨B3, m3, c3, rfl⟩ : ∃ B m c, v3 = .slice B m c := by obtain ⟨B, c, e, -⟩ := hO3.read; exact ⟨_, _, _, e⟩
                 have hO3' := Lib.hid hO3
                 have hb3' := Lib.hid hb3
                 have tt1 : True := trivial
                 clear hO3 hg3 ho3 hT3 hb3)
              | (clear tt1
                 at_builtin
                 refine wpList_append_icut (w := w3.alloc (.cells #[.int .i64 n] 3)) (B := 0) (A := some ⟨g, 0, none⟩) (m := j) (x := .slice (some ⟨w3.heap.size, 0, none⟩) 1 1) rfl _ _ 22 rfl Tryz.underlying22 rfl rfl ((hO'.out.below hb3'.out).below ((Below.refl _ w3).alloc (Nat.le_refl _) _)) (by rw [hL'.out]; exact hj) (own_one (B := 0) (e := 3) (sz := 1) w3 #[.int .i64 n] rfl (Nat.zero_le _)) (by have := hlen'.out; omega) (Nat.zero_le _) ?_
                 intro v4 w4 hO4 hg4 hv4
                 have hb4 : Below w3.heap.size w3 w4 := (((Turns.refl (fun _ => False) w3).alloc (.cells #[.int .i64 n] 3)).grown hg4 (fun _ h _ => by cases h)).below (Nat.le_refl _) (fun _ h => h.elim)
                 obtain ⟨B4, c4, rfl, -⟩ := own_read hO4
                 have hO4' := Lib.hid hO4
                 have hb4' := Lib.hid (Below.trans hb3'.out (Below.mono hb4 hb3'.out.size))
                 have hO5' := Lib.hid (hO3'.out.below hb4)
                 have hv4' : ∀ b, (Value.slice B4 (j + 1) c4).ownBlock = some b → wr.heap.size ≤ b := fun b hb => by
                   rw [hv4] at hb
                   have h1 := hb3'.out.size
                   simp at hb; omega
                 have hv4'' := Lib.hid hv4'
                 have tt2 : True := trivial
                 clear hO4 hg4 hv4 hb4 hv4')
              | (clear tt2
                 at_builtin
                 refine wpList_append_row (B := 0) (v := .slice B4 (j + 1) c4) (.int .i64 0) 8 Tryz.infoInt rfl (by decide) rfl _ _ 22 rfl Tryz.underlying22 rfl rfl hO4'.out hO5'.out (fun u hu => by obtain ⟨_, _, rfl⟩ := List.mem_map.1 hu; rfl) (by have := hlen'.out; have := hL'.out; simp only [List.length_drop]; omega) (by decide) (Nat.zero_le _) ?_
                 intro v6 w6 hO6 hg6 hv6
                 have hb6 := Lib.hid (((Turns.of_below hb4'.out (fun _ => False)).grown hg6 (fun k hk hlt => by have := hv4''.out k hk; omega)).below (Nat.le_refl _) (fun _ h => h.elim))
                 have hO6' := Lib.hid hO6
                 clear hO6 hg6 hv6))
            go_ret
            refine ⟨_, rfl, ⟨?_, fun e => ?_⟩, hb6.out⟩
            · have e6 := hO6'.out
              rw [SC.pti_new hlo.out hno.out]
              unfold Own
              have el : (l.take j ++ (n :: l.drop j)).length = j + 1 + (l.drop j).length := by have := hL'.out; simp <;> omega
              rw [el, List.map_append, List.map_cons]
              rw [List.append_assoc] at e6
              exact e6
            · rw [SC.pti_new hlo.out hno.out] at e
              simp at e
      · have e1 : decide ((j : Int) < (L : Int)) = false := by rw [decide_eq_false_iff_not]; omega
        go_upto_region 6 with fail
        have hno := Lib.hid (show ∀ y, l[j]? = some y → n < y from fun y hy => by
          have := (List.getElem?_eq_some_iff.1 hy).1
          rw [hL'.out] at this
          omega)
        have hd0 : l.drop j = [] := List.drop_of_length_le (by rw [hL'.out]; omega)
        have hdp0 : PIn wr (.slice (if c = j then some ⟨g, 0, none⟩ else some ⟨g, j, none⟩) (L - j) (c - j)) (l.drop j) := by
          rw [hd0, show L - j = 0 by omega]
          exact ⟨_, _, rfl, by simp, 0, 0, fun h => absurd h (by simp), fun i x hx => by simp at hx⟩
        have hdp := Lib.hid (hdp0.below ((Below.refl _ wr).alloc (Nat.le_refl _) (.cells #[] 3)))
        have tt0 : True := trivial
        clear hdp0 hd0
        go_wp2_with (first
          | (clear tt0
             at_builtin
             refine wpList_append_pin (B := wr.heap.size) (v := .slice (some ⟨wr.heap.size, 0, none⟩) 0 0) (l := []) (x := .slice (if c = j then some ⟨g, 0, none⟩ else some ⟨g, j, none⟩) (L - j) (c - j)) (lx := l.drop j) rfl _ _ 22 rfl Tryz.underlying22 rfl rfl (Own.zero wr (Nat.le_refl _)) hdp.out (by have := hlen'.out; simp only [List.length_nil, List.length_drop]; omega) (by simp) ?_
             intro v3 w3 hO3 hg3 ho3
             have hT3 : Turns (fun _ => False) wr w3 := (((Turns.refl (fun b => (Value.slice (some ⟨wr.heap.size, 0, none⟩) 0 0).ownBlock = some b) wr).alloc (.cells #[] 3)).then (Turns.appended hg3) (fun _ _ h => h)).mono (fun b hb h => by
               have : wr.heap.size = b := by simpa [Value.ownBlock] using h
               omega)
             have hb3 : Below wr.heap.size wr w3 := hT3.below (Nat.le_refl _) (fun _ h => h.elim)
             rw [List.nil_append] at hO3
             obtain ⟨B3, m3, c3, rfl⟩ : ∃ B m c, v3 = .slice B m c := by obtain ⟨B, c, e, -⟩ := hO3.read; exact ⟨_, _, _, e⟩
             have hO3' := Lib.hid hO3
             have hb3' := Lib.hid hb3
             have tt1 : True := trivial
             clear hO3 hg3 ho3 hT3 hb3)
          | (clear tt1
             at_builtin
             refine wpList_append_icut (w := w3.alloc (.cells #[.int .i64 n] 3)) (B := 0) (A := some ⟨g, 0, none⟩) (m := j) (x := .slice (some ⟨w3.heap.size, 0, none⟩) 1 1) rfl _ _ 22 rfl Tryz.underlying22 rfl rfl ((hO'.out.below hb3'.out).below ((Below.refl _ w3).alloc (Nat.le_refl _) _)) (by rw [hL'.out]; exact hj) (own_one (B := 0) (e := 3) (sz := 1) w3 #[.int .i64 n] rfl (Nat.zero_le _)) (by have := hlen'.out; omega) (Nat.zero_le _) ?_
             intro v4 w4 hO4 hg4 hv4
             have hb4 : Below w3.heap.size w3 w4 := (((Turns.refl (fun _ => False) w3).alloc (.cells #[.int .i64 n] 3)).grown hg4 (fun _ h _ => by cases h)).below (Nat.le_refl _) (fun _ h => h.elim)
             obtain ⟨B4, c4, rfl, -⟩ := own_read hO4
             have hO4' := Lib.hid hO4
             have hb4' := Lib.hid (Below.trans hb3'.out (Below.mono hb4 hb3'.out.size))
             have hO5' := Lib.hid (hO3'.out.below hb4)
             have hv4' : ∀ b, (Value.slice B4 (j + 1) c4).ownBlock = some b → wr.heap.size ≤ b := fun b hb => by
               rw [hv4] at hb
               have h1 := hb3'.out.size
               simp at hb; omega
             have hv4'' := Lib.hid hv4'
             have tt2 : True := trivial
             clear hO4 hg4 hv4 hb4 hv4')
          | (clear tt2
             at_builtin
             refine wpList_append_row (B := 0) (v := .slice B4 (j + 1) c4) (.int .i64 0) 8 Tryz.infoInt rfl (by decide) rfl _ _ 22 rfl Tryz.underlying22 rfl rfl hO4'.out hO5'.out (fun u hu => by obtain ⟨_, _, rfl⟩ := List.mem_map.1 hu; rfl) (by have := hlen'.out; have := hL'.out; simp only [List.length_drop]; omega) (by decide) (Nat.zero_le _) ?_
             intro v6 w6 hO6 hg6 hv6
             have hb6 := Lib.hid (((Turns.of_below hb4'.out (fun _ => False)).grown hg6 (fun k hk hlt => by have := hv4''.out k hk; omega)).below (Nat.le_refl _) (fun _ h => h.elim))
             have hO6' := Lib.hid hO6
             clear hO6 hg6 hv6))
        all_goals
          go_ret
          refine ⟨_, rfl, ⟨?_, fun e => ?_⟩, hb6.out⟩
          · have e6 := hO6'.out
            rw [SC.pti_new hlo.out hno.out]
            unfold Own
            have el : (l.take j ++ (n :: l.drop j)).length = j + 1 + (l.drop j).length := by have := hL'.out; simp <;> omega
            rw [el, List.map_append, List.map_cons]
            rw [List.append_assoc] at e6
            exact e6
          · rw [SC.pti_new hlo.out hno.out] at e
            simp at e
end Go.Proofs.YtpiekdcbjkgipaaGreat

/- The reference of layer 10: numbered, a term whose locals are their places. -/
namespace Go.Proofs.YtpiekdcbjkgipaaGreat
open Go.ChangeShapes Go.WideShapes Go.ChangeAt Go.RowKit Go.Deep
open TM (Tl Tm)

def NmOk (t : Tm) : Prop := ∀ (w : World) (vl : Value) (l : List Int) (vp vi vk : Value), TmIn w t vp vi vk → PIn w vl l → TM.sd1 t = true → TM.sz t.ks ≤ 5000 →
  Calls Tryz.prog 52 #[tmv t vp vi vk, vl] w fun e w' => ∃ vp' vi' vk', e = .returned (tmv (TM.nm1 l t) vp' vi' vk') ∧ NewT w.heap.size w' (TM.nm1 l t) vp' vi' vk' ∧ Went w w'
set_option maxRecDepth 100000 in
set_option maxHeartbeats 8000000 in
theorem nm_step (k n : Int) (s : List UInt8) (ps : List Int) (d : RM.Dm) (ks : Tl) (hR : ∀ i x, ks.at_ i = some x → NmOk x) : NmOk ⟨k, n, s, ps, d, ks⟩ := by
  intro w vl l vp vi vk h hvl hsd hsz
  obtain ⟨P3, p3, rfl⟩ := h.p.read
  obtain ⟨I7, q7, rfl⟩ := h.d.read
  obtain ⟨A1, c1, rfl⟩ := h.k.read
  have hlen := h.k.len
  have hTk := h.k
  have hTp := h.p
  have hTd := h.d
  unfold TM.sd1 at hsd
  simp only [Bool.and_eq_true, decide_eq_true_eq] at hsd
  simp only at hlen hTk hTp hTd hsd hsz ⊢
  have hd5 : SM.sz d.is ≤ 5000 := by
    have := hsd.1.1
    unfold SM.small at this
    simp only [Bool.and_eq_true, decide_eq_true_eq] at this
    omega
  have hO := Lib.hid (fun (w' : World) (hb : Below w.heap.size w w') => own_any d w' _ (hTd.below hb) hd5)
  have hpl := hsd.1.2
  obtain ⟨N, hN⟩ : ∃ N, ks.len = N := ⟨_, rfl⟩
  obtain ⟨L3, hL3⟩ : ∃ x, ps.length = x := ⟨_, rfl⟩
  obtain ⟨L7, hL7⟩ : ∃ x, d.is.len = x := ⟨_, rfl⟩
  have hN5 : N ≤ 5000 := by have := TM.len_sz ks; omega
  have hPl := Lib.hid (fun (w' : World) (hb : Below w.heap.size w w') (m : Int) => place_any w' vl l m (hvl.below hb))
  obtain ⟨nn, hnn⟩ : ∃ nn, (if k = 2 ∨ k = 4 then TM.pl l n else n) = nn := ⟨_, rfl⟩
  obtain ⟨Al, Ll, cl, rfl⟩ : ∃ A m c, vl = .slice A m c := by obtain ⟨A, c, e⟩ := hvl.read; exact ⟨_, _, _, e⟩
  unfold TM.nm1
  simp only
  rw [hnn]
  unfold tmv
  simp only
  unfold dtv at hO
  rw [hN] at hlen hTk ⊢
  rw [hL3] at hTp hpl
  rw [hL7] at hO
  rw [hL3, hL7]
  have hN' := Lib.hid hN
  have hL3' := Lib.hid hL3
  have hR' := Lib.hid hR
  have hsz' := Lib.hid hsz
  have hsd' := Lib.hid hsd.2
  have hL := (Lies.made w 28 #[.int .i64 k, .int .i64 n, .string ⟨s.toArray⟩, .slice P3 L3 p3, .int .i64 d.k, .int .i64 d.n, .string ⟨d.s.toArray⟩, .slice I7 L7 q7, .slice A1 N c1]).alloc (.cells #[.int .i64 0, .int .i64 0, .string ⟨#[]⟩, .slice none 0 0, .int .i64 0, .int .i64 0, .string ⟨#[]⟩, .slice none 0 0, .slice none 0 0] 28)
  have hz1 : (w.alloc (.cells #[.int .i64 k, .int .i64 n, .string ⟨s.toArray⟩, .slice P3 L3 p3, .int .i64 d.k, .int .i64 d.n, .string ⟨d.s.toArray⟩, .slice I7 L7 q7, .slice A1 N c1] 28)).heap.size = w.heap.size + 1 := by simp
  have hLr := Lies.made (w.alloc (.cells #[.int .i64 k, .int .i64 n, .string ⟨s.toArray⟩, .slice P3 L3 p3, .int .i64 d.k, .int .i64 d.n, .string ⟨d.s.toArray⟩, .slice I7 L7 q7, .slice A1 N c1] 28)) 28 #[.int .i64 0, .int .i64 0, .string ⟨#[]⟩, .slice none 0 0, .int .i64 0, .int .i64 0, .string ⟨#[]⟩, .slice none 0 0, .slice none 0 0]
  rw [hz1] at hLr
  obtain ⟨W2, hW2⟩ : ∃ W2, ((w.alloc (.cells #[.int .i64 k, .int .i64 n, .string ⟨s.toArray⟩, .slice P3 L3 p3, .int .i64 d.k, .int .i64 d.n, .string ⟨d.s.toArray⟩, .slice I7 L7 q7, .slice A1 N c1] 28)).alloc (.cells #[.int .i64 0, .int .i64 0, .string ⟨#[]⟩, .slice none 0 0, .int .i64 0, .int .i64 0, .string ⟨#[]⟩, .slice none 0 0, .slice none 0 0] 28)) = W2 := ⟨_, rfl⟩
  have hba : Below w.heap.size w W2 := by rw [← hW2]; exact ((Below.refl _ w).alloc (Nat.le_refl _) _).alloc (by simp) _
  have hZ2 : W2.heap.size = w.heap.size + 2 := by rw [← hW2]; simp
  rw [hW2] at hL hLr
  have x0 := hL.cell 0
  have x1 := hL.cell 1
  have f1 := hL.free 1
  have hltL := hL.lt
  simp only [List.getElem?_cons_succ, List.getElem?_cons_zero] at x0 x1
  have hL5 := hL.stored 1 (.int .i64 nn)
  have hLr5 := hLr.far (p := ⟨w.heap.size, 1, none⟩) (by simp) (.int .i64 nn)
  simp only [List.set_cons_succ, List.set_cons_zero] at hL5
  have hb5 : Below w.heap.size w (W2.setCell ⟨w.heap.size, 1, none⟩ (.int .i64 nn)) := hba.setCell (p := ⟨w.heap.size, 1, none⟩) (Nat.le_refl _) _
  have hnn' := Lib.hid hnn
  clear hN hR hL3 hL7 hz1 h hsd hsz hTd hd5 hnn
  obtain ⟨kk, hkk⟩ : ∃ kk, decide (k = 2 ∨ k = 4) = kk := ⟨_, rfl⟩
  have hkk' := Lib.hid hkk
  clear hkk
  go_enter Tryz.func52, Tryz.ntmps52
  go_upto_region 1 with fail
  go_cut [16] from 9 to 16 (fun s16 wx => s16 = .bool kk ∧ W2 = wx)
  case first =>
    by_cases h2 : k = 2
    · obtain rfl : kk = true := by rw [← hkk'.out]; simp [h2]
      subst h2
      go_wp2_with fail
      go_meet
      case rel => exact ⟨rfl, rfl⟩
    · by_cases h4 : k = 4
      · obtain rfl : kk = true := by rw [← hkk'.out]; simp [h4]
        subst h4
        go_wp2_with fail
        go_meet
        case rel => exact ⟨rfl, rfl⟩
      · obtain rfl : kk = false := by rw [← hkk'.out]; simp [h2, h4]
        have q2 : (k == 2) = false := by simp [h2]
        have q4 : (k == 4) = false := by simp [h4]
        go_wp2_with fail
        go_meet
        case rel => exact ⟨rfl, rfl⟩
  case rest =>
  obtain ⟨rfl, rfl⟩ := hcut
  go_upto_if 16 with fail
  go_cut [17] from 17 to 21 (fun s17 wx => Lies wx w.heap.size 28 [.int .i64 k, .int .i64 nn, .string ⟨s.toArray⟩, .slice P3 L3 p3, .int .i64 d.k, .int .i64 d.n, .string ⟨d.s.toArray⟩, .slice I7 L7 q7, .slice A1 N c1] ∧ Lies wx (w.heap.size + 1) 28 [.int .i64 0, .int .i64 0, .string ⟨#[]⟩, .slice none 0 0, .int .i64 0, .int .i64 0, .string ⟨#[]⟩, .slice none 0 0, .slice none 0 0] ∧ Below w.heap.size w wx)
  case first =>
    cases kk
    · have hne : ¬ (k = 2 ∨ k = 4) := of_decide_eq_false hkk'.out
      have hnn2 := hnn'.out
      rw [if_neg hne] at hnn2
      subst hnn2
      go_wp2_with fail
      go_meet
      case rel => exact ⟨hL, hLr, hba⟩
    · have hne : k = 2 ∨ k = 4 := of_decide_eq_true hkk'.out
      have hnn2 := hnn'.out
      rw [if_pos hne] at hnn2
      have hC := Lib.hid (hPl.out W2 hba n)
      rw [hnn2] at hC
      clear hnn2 hne
      go_wp2_with (
        go_at_call 68
        refine hC.out.mono ?_
        rintro e w5 ⟨rfl, rfl⟩)
      go_meet
      case rel => exact ⟨hL5, hLr5, hb5⟩
  case rest =>
  obtain ⟨hLc, hLrc, hbc⟩ := hcut
  clear hL hLr hba hL5 hLr5 hb5 x0 x1 f1 hltL hkk' hW2 hZ2
  go_upto_block 0 with fail
  go_cut [5, 6] from 22 to 38 (fun s5 s6 wx => ∃ (P9 : Option Addr) (m9 p9 : Nat), s5 = .slice P9 m9 p9 ∧ Hid (Own wx (w.heap.size + 2) (.slice P9 m9 p9) (ps.map (TM.pl l))) ∧ Lies wx w.heap.size 28 [.int .i64 k, .int .i64 nn, .string ⟨s.toArray⟩, .slice P3 L3 p3, .int .i64 d.k, .int .i64 d.n, .string ⟨d.s.toArray⟩, .slice I7 L7 q7, .slice A1 N c1] ∧ Lies wx (w.heap.size + 1) 28 [.int .i64 0, .int .i64 0, .string ⟨#[]⟩, .slice none 0 0, .int .i64 0, .int .i64 0, .string ⟨#[]⟩, .slice none 0 0, .slice none 0 0] ∧ Below w.heap.size w wx)
  case first =>
    go_wp2_with fail
    go_loopw [5, 6] (fun v5 i wr => ∃ (j : Nat), j ≤ L3 ∧ i = .int .i64 j ∧ Own wr (w.heap.size + 2) v5 ((ps.take j).map (TM.pl l)) ∧ Lies wr w.heap.size 28 [.int .i64 k, .int .i64 nn, .string ⟨s.toArray⟩, .slice P3 L3 p3, .int .i64 d.k, .int .i64 d.n, .string ⟨d.s.toArray⟩, .slice I7 L7 q7, .slice A1 N c1] ∧ Lies wr (w.heap.size + 1) 28 [.int .i64 0, .int .i64 0, .string ⟨#[]⟩, .slice none 0 0, .int .i64 0, .int .i64 0, .string ⟨#[]⟩, .slice none 0 0, .slice none 0 0] ∧ Below w.heap.size w wr) (fun _ i _ => L3 - (intOf i).toNat)
    case atStart => exact ⟨0, by omega, rfl, by simpa using Own.none_ _ _, hLc, hLrc, hbc⟩
    case round =>
      obtain ⟨j, hj, rfl, hO5, hM1, hM2, hb⟩ := hrel
      clear hLc hLrc hbc
      have y3 : wr.cell? ⟨w.heap.size, 3, none⟩ = some (.slice P3 L3 p3) := hM1.cell 3
      obtain ⟨P9, m9, p9, rfl⟩ := slice_of hO5
      by_cases hlt : j < L3
      · have hx : ps[j]? = some (ps[j]'(by rw [hL3'.out]; exact hlt)) := List.getElem?_eq_getElem _
        obtain ⟨x, hxe⟩ : ∃ x, ps[j]'(by rw [hL3'.out]; exact hlt) = x := ⟨_, rfl⟩
        rw [hxe] at hx
        obtain ⟨b, o, rfl, hb0, p0⟩ := (hTp.below hb).cell hx
        have hC := Lib.hid (hPl.out wr hb x)
        have htk : (ps.take (j + 1)).map (TM.pl l) = (ps.take j).map (TM.pl l) ++ [TM.pl l x] := by rw [List.take_add_one, hx]; simp
        have htk' := Lib.hid htk
        have hln : ((ps.take j).map (TM.pl l)).length = j := by rw [List.length_map, List.length_take, hL3'.out]; omega
        have hln' := Lib.hid hln
        generalize TM.pl l x = y at hC htk'
        have hO5' := Lib.hid hO5
        have hl2 := hM2.lt
        have hlo := Lib.hid hO5.lt
        have hpl' := Lib.hid hpl
        clear hx hxe htk hln hO5
        go_wp2_with (first
          | (go_at_call 68
             refine hC.out.mono ?_
             rintro e w5 ⟨rfl, rfl⟩)
          | (at_builtin
             refine wpList_append_ints (B := w.heap.size + 2) (v := .slice P9 m9 p9) (x := .slice (some ⟨wr.heap.size, 0, none⟩) 1 1) (B' := 0) rfl _ _ 22 rfl Tryz.underlying22 rfl rfl (hO5'.out.turns ((Turns.refl (fun _ => False) _).alloc _) (fun _ _ h => h)) (Own.one wr y (Nat.zero_le _)) (by rw [hln'.out]; simp; have := hpl'.out; omega) (by simp; omega) ?_
             intro v9 w9 hown9 hg9 hat9
             have T1 := ((Turns.refl (fun g => (Value.slice P9 m9 p9).ownBlock = some g) wr).alloc (.cells #[.int .i64 y] 3)).then (Turns.appended hg9) (fun _ _ h => h)
             have hM5 := hM1.turns T1 (fun hh => by have := (hlo.out _ hh).1; omega)
             have hM6 := hM2.turns T1 (fun hh => by have := (hlo.out _ hh).1; omega)
             have hb9 : Below w.heap.size w w9 := hb.trans (T1.below hb.size (fun g hh => by have := (hlo.out _ hh).1; omega))
             rw [← htk'.out] at hown9
             have hown9' := Lib.hid hown9
             clear hg9 hat9 T1 hown9))
        go_roundw
        case rel => exact ⟨j + 1, by omega, by go_num, hown9'.out, hM5, hM6, hb9⟩
        case measure => simp [intOf]; omega
      · obtain rfl : j = L3 := by omega
        have hall : ps.take j = ps := by rw [← hL3'.out]; exact List.take_length
        rw [hall] at hO5
        have hp9 : ∀ g, (Value.slice P9 m9 p9).ownBlock = some g → w.heap.size + 2 ≤ g ∧ g < wr.heap.size := hO5.lt
        clear hall hp9
        have hO9 := Lib.hid hO5
        clear hO5
        go_wp2_with fail
        go_meet
        case rel => exact ⟨P9, m9, p9, rfl, hO9, hM1, hM2, hb⟩
  case rest =>
  obtain ⟨P9, m9, p9, rfl, hO9, hM1, hM2, hb⟩ := hcut
  have hO5 := hO9.out
  obtain ⟨w9, hw9e⟩ : ∃ w9, w9 = wc := ⟨_, rfl⟩
  subst hw9e
  have hp9 : ∀ g, (Value.slice P9 m9 p9).ownBlock = some g → w.heap.size + 2 ≤ g ∧ g < w9.heap.size := hO5.lt
  clear hLc hLrc hbc hO9 hPl hL3' hTp hnn'
  have x39 := hM1.cell 3
  have f39 := hM1.free 3
  have hlt9 := hM1.lt
  have hw9 := hM2.lt
  simp only [List.getElem?_cons_succ, List.getElem?_cons_zero] at x39
  have hM10 := hM1.stored 3 (.slice P9 m9 p9)
  have hMr10 := hM2.far (p := ⟨w.heap.size, 3, none⟩) (by simp) (.slice P9 m9 p9)
  simp only [List.set_cons_succ, List.set_cons_zero] at hM10
  have hb10 : Below w.heap.size w (w9.setCell ⟨w.heap.size, 3, none⟩ (.slice P9 m9 p9)) := hb.setCell (p := ⟨w.heap.size, 3, none⟩) (Nat.le_refl _) (.slice P9 m9 p9)
  have hP10' := (hO5.base (B' := 0) (Nat.zero_le _)).turns ((Turns.refl (fun k => k = w.heap.size) w9).setCell (p := ⟨w.heap.size, 3, none⟩) (fun _ => rfl) (.slice P9 m9 p9)) (fun g hg hh => by have := (hp9 g hg).1; omega)
  have hp9' := Lib.hid hp9
  have hP10 := Lib.hid hP10'
  clear hM1 hM2 hb hp9 hO5 hP10'
  go_wp2_with fail
  have hP10' := hP10.out
  clear hP10
  go_loopw [7, 8] (fun v8 i wr => ∃ (j : Nat), j ≤ N ∧ i = .int .i64 j ∧ NewR w9.heap.size wr ((TM.nmt l ks).tk j) v8 ∧ Own wr 0 (.slice P9 m9 p9) (ps.map (TM.pl l)) ∧ Lies wr w.heap.size 28 [.int .i64 k, .int .i64 nn, .string ⟨s.toArray⟩, .slice P9 m9 p9, .int .i64 d.k, .int .i64 d.n, .string ⟨d.s.toArray⟩, .slice I7 L7 q7, .slice A1 N c1] ∧ Lies wr (w.heap.size + 1) 28 [.int .i64 0, .int .i64 0, .string ⟨#[]⟩, .slice none 0 0, .int .i64 0, .int .i64 0, .string ⟨#[]⟩, .slice none 0 0, .slice none 0 0] ∧ Below w.heap.size w wr ∧ w9.heap.size ≤ wr.heap.size) (fun _ i _ => N - (intOf i).toNat)
  case atStart => exact ⟨0, by omega, rfl, by rw [Tl.tk_zero]; exact NewR.nil _ _, hP10', hM10, hMr10, hb10, by simp⟩
  case round =>
    obtain ⟨j, hj, rfl, hI, hP, hM1, hM2, hb, hw99⟩ := hrel
    clear hM10 hMr10 hb10 hP10'
    have y8 : wr.cell? ⟨w.heap.size, 8, none⟩ = some (.slice A1 N c1) := hM1.cell 8
    obtain ⟨A8, c8, rfl⟩ := hI.read
    have htl : ((TM.nmt l ks).tk j).len = j := Tl.tk_len _ j (by rw [TM.nmt_len, hN'.out]; exact hj)
    by_cases hlt : j < N
    · obtain ⟨x, hx⟩ := ks.at_some j (by rw [hN'.out]; exact hlt)
      obtain ⟨b, o, P5, p5, I5, q5, K5, r5, rfl, hb0, c10, c11, c12, c13, c14, c15, c16, c17, c18, hT5⟩ := (hTk.below hb).at_ hx
      have hup := TM.sz_in hx
      have hC := Lib.hid (hR'.out j x hx wr _ l _ _ _ hT5 (hvl.below hb) (TM.sdl_in hsd'.out hx) (by have := hsz'.out; omega))
      have hsn := Tl.tk_snoc _ j _ (TM.nmt_at l hx)
      generalize (TM.nmt l ks).tk j = out at hI hsn htl ⊢
      have hsn' := Lib.hid hsn
      have e8 : Value.slice A8 out.len c8 = .slice A8 j c8 := by rw [htl]
      rw [e8] at hI
      rw [e8]
      have htl' := Lib.hid htl
      have hI' := Lib.hid hI
      have hP' := Lib.hid hP
      have hlt2 := hM2.lt
      have hj' := Lib.hid hN5
      generalize TM.nm1 l x = y at hC hsn'
      unfold tmv at hC
      clear hx hup hsn htl e8 hT5 hI hP
      go_wp2_with (first
        | (go_at_call 52
           refine hC.out.mono ?_
           rintro e w3 ⟨v1, v2, v3, rfl, hNw, hb3⟩
           obtain ⟨P6, m6, p6, rfl⟩ : ∃ A m c, v1 = .slice A m c := by obtain ⟨A, c, e⟩ := hNw.tmin.p.read; exact ⟨_, _, _, e⟩
           obtain ⟨I6, l6, q6, rfl⟩ : ∃ A m c, v2 = .slice A m c := by obtain ⟨A, c, e⟩ := hNw.tmin.d.read; exact ⟨_, _, _, e⟩
           obtain ⟨K6, n6, r6, rfl⟩ : ∃ A m c, v3 = .slice A m c := by obtain ⟨A, c, e⟩ := hNw.tmin.k.read; exact ⟨_, _, _, e⟩
           have hb3' := Lib.hid hb3
           have hNw' := Lib.hid hNw
           have hM3 := (hM1.below hb3 hM1.lt).alloc (.cells #[.int .i64 y.k, .int .i64 y.n, .string ⟨y.s.toArray⟩, .slice P6 m6 p6, .int .i64 y.d.k, .int .i64 y.d.n, .string ⟨y.d.s.toArray⟩, .slice I6 l6 q6, .slice K6 n6 r6] 28)
           have hM4 := (hM2.below hb3 hM2.lt).alloc (.cells #[.int .i64 y.k, .int .i64 y.n, .string ⟨y.s.toArray⟩, .slice P6 m6 p6, .int .i64 y.d.k, .int .i64 y.d.n, .string ⟨y.d.s.toArray⟩, .slice I6 l6 q6, .slice K6 n6 r6] 28)
           have T0 := Lib.hid ((Turns.of_below hb3 (fun _ => False)).alloc (.cells #[.int .i64 y.k, .int .i64 y.n, .string ⟨y.s.toArray⟩, .slice P6 m6 p6, .int .i64 y.d.k, .int .i64 y.d.n, .string ⟨y.d.s.toArray⟩, .slice I6 l6 q6, .slice K6 n6 r6] 28))
           clear hb3 hNw c10 c11 c12 c13 c14 c15 c16 c17 c18 y8)
        | (at_builtin
           refine wpList_append_new (v8 := .slice A8 j c8) rfl _ _ rfl rfl rfl hI'.out hb3'.out hw99 hNw'.out (by rw [htl'.out]; omega) ?_
           intro v9 w11 hR9 hT9
           have hlo := hI'.out.lt
           have hM5 := hM3.turns hT9 (fun hh => by have := (hlo _ hh).1; omega)
           have hM6 := hM4.turns hT9 (fun hh => by have := (hlo _ hh).1; omega)
           have T01 := (T0.out.mono (Y := fun g => (Value.slice A8 j c8).ownBlock = some g) (fun _ _ h => h.elim)).then hT9 (fun _ _ h => h)
           have hP9 := hP'.out.turns T01 (fun g hg hh => by have := (hlo _ hh).1; have := (hp9'.out g hg).2; omega)
           have hb11 : Below w.heap.size w w11 := hb.trans (T01.below hb.size (fun g hh => by have := (hlo _ hh).1; omega))
           have hw11 : w9.heap.size ≤ w11.heap.size := Nat.le_trans hw99 T01.size
           clear hT9 T01 hlo hM3 hM4))
      go_roundw
      case rel => exact ⟨j + 1, by omega, by go_num, by rw [hsn'.out]; exact hR9, hP9, hM5, hM6, hb11, hw11⟩
      case measure => simp [intOf]; omega
    · obtain rfl : j = N := by omega
      have hall : (TM.nmt l ks).tk j = TM.nmt l ks := by rw [← hN'.out, ← TM.nmt_len l ks]; exact Tl.tk_all _
      have e8 : Value.slice A8 ((TM.nmt l ks).tk j).len c8 = .slice A8 j c8 := by rw [htl]
      rw [e8, hall] at hI
      rw [e8]
      have hM9 := hM1.stored 8 (.slice A8 j c8)
      have hMr9 := hM2.far (p := ⟨w.heap.size, 8, none⟩) (by simp) (.slice A8 j c8)
      simp only [List.set_cons_succ, List.set_cons_zero] at hM9
      have hb9 : Below w.heap.size w (wr.setCell ⟨w.heap.size, 8, none⟩ (.slice A8 j c8)) := hb.setCell (p := ⟨w.heap.size, 8, none⟩) (Nat.le_refl _) _
      have f8 := hM1.free 8
      have q4 := hM9.cell 4
      have q5 := hM9.cell 5
      have q6 := hM9.cell 6
      have q7 := hM9.cell 7
      have hlt1 := hM1.lt
      simp only [List.getElem?_cons_succ, List.getElem?_cons_zero] at q4 q5 q6 q7
      have hI' := Lib.hid hI
      have hP' := Lib.hid hP
      have hC := Lib.hid (hO.out _ hb9)
      have hsk : (wr.setCell ⟨w.heap.size, 8, none⟩ (.slice A8 j c8)).heap.size = wr.heap.size := by simp
      have hsk' := Lib.hid hsk
      clear hall htl e8 hI hP hsk
      go_wp2_with (
        go_at_call 23
        refine hC.out.mono ?_
        rintro e w5 ⟨v5, rfl, hO5, hb5⟩
        obtain ⟨I8, L8, q8, rfl⟩ : ∃ A m c, v5 = .slice A m c := by obtain ⟨A, c, e⟩ := hO5.read; exact ⟨_, _, _, e⟩
        have hM5 := hM9.below hb5 hM9.lt
        have hMr5 := hMr9.below hb5 hMr9.lt
        have x4 := hM5.cell 4
        have x5 := hM5.cell 5
        have x6 := hM5.cell 6
        have x7 := hM5.cell 7
        have f4 := hM5.free 4
        have f5 := hM5.free 5
        have f6 := hM5.free 6
        have f7 := hM5.free 7
        have hlt5 := hM5.lt
        have hM6 := (((hM5.stored 4 (.int .i64 d.k)).stored 5 (.int .i64 d.n)).stored 6 (.string ⟨d.s.toArray⟩)).stored 7 (.slice I8 L8 q8)
        have hMr7 := (((hMr5.far (p := ⟨w.heap.size, 4, none⟩) (by simp) (.int .i64 d.k)).far (p := ⟨w.heap.size, 5, none⟩) (by simp) (.int .i64 d.n)).far (p := ⟨w.heap.size, 6, none⟩) (by simp) (.string ⟨d.s.toArray⟩)).far (p := ⟨w.heap.size, 7, none⟩) (by simp) (.slice I8 L8 q8)
        simp only [List.getElem?_cons_succ, List.getElem?_cons_zero, List.set_cons_succ, List.set_cons_zero] at x4 x5 x6 x7 hM6
        have y0 := hM6.cell 0
        have y1 := hM6.cell 1
        have y2 := hM6.cell 2
        have y3 := hM6.cell 3
        have y4 := hM6.cell 4
        have y5 := hM6.cell 5
        have y6 := hM6.cell 6
        have y7 := hM6.cell 7
        have y8 := hM6.cell 8
        have cz0 := hMr7.cell 0
        have fz0 := hMr7.free 0
        have cz1 := hMr7.cell 1
        have fz1 := hMr7.free 1
        have cz2 := hMr7.cell 2
        have fz2 := hMr7.free 2
        have cz3 := hMr7.cell 3
        have fz3 := hMr7.free 3
        have cz4 := hMr7.cell 4
        have fz4 := hMr7.free 4
        have cz5 := hMr7.cell 5
        have fz5 := hMr7.free 5
        have cz6 := hMr7.cell 6
        have fz6 := hMr7.free 6
        have cz7 := hMr7.cell 7
        have fz7 := hMr7.free 7
        have cz8 := hMr7.cell 8
        have fz8 := hMr7.free 8
        have hltr := hMr7.lt
        simp only [List.getElem?_cons_succ, List.getElem?_cons_zero] at y0 y1 y2 y3 y4 y5 y6 y7 y8 cz0 cz1 cz2 cz3 cz4 cz5 cz6 cz7 cz8
        have hO5' := Lib.hid hO5
        have hb5' := Lib.hid hb5
        clear hO5 hb5)
      have T4 : Turns (fun k => k = w.heap.size) w5 _ := ((((Turns.refl (fun k => k = w.heap.size) w5).setCell (p := ⟨w.heap.size, 4, none⟩) (fun _ => rfl) (.int .i64 d.k)).setCell (p := ⟨w.heap.size, 5, none⟩) (fun _ => rfl) (.int .i64 d.n)).setCell (p := ⟨w.heap.size, 6, none⟩) (fun _ => rfl) (.string ⟨d.s.toArray⟩)).setCell (p := ⟨w.heap.size, 7, none⟩) (fun _ => rfl) (.slice I8 L8 q8)
      have Tz := nine_turns (T4.mono (Y := fun g => g = w.heap.size ∨ g = w.heap.size + 1) (fun _ _ h => .inl h)) (g := w.heap.size + 1) (fun _ => .inr rfl) 0 (.int .i64 k) (.int .i64 nn) (.string ⟨s.toArray⟩) (.slice P9 m9 p9) (.int .i64 d.k) (.int .i64 d.n) (.string ⟨d.s.toArray⟩) (.slice I8 L8 q8) (.slice A8 j c8)
      have Tr := (((Turns.refl (fun k => k = w.heap.size) wr).setCell (p := ⟨w.heap.size, 8, none⟩) (fun _ => rfl) (.slice A8 j c8)).mono (Y := fun g => g = w.heap.size ∨ g = w.heap.size + 1) (fun _ _ h => .inl h)).then ((Turns.of_below hb5'.out (fun g => g = w.heap.size ∨ g = w.heap.size + 1))) (fun _ _ h => h) |>.then Tz (fun _ _ h => h)
      have hMz := nine_res hMr7 (w.heap.size + 1) rfl (.int .i64 k) (.int .i64 nn) (.string ⟨s.toArray⟩) (.slice P9 m9 p9) (.int .i64 d.k) (.int .i64 d.n) (.string ⟨d.s.toArray⟩) (.slice I8 L8 q8) (.slice A8 j c8)
      have rz0 := hMz.cell 0
      have rz1 := hMz.cell 1
      have rz2 := hMz.cell 2
      have rz3 := hMz.cell 3
      have rz4 := hMz.cell 4
      have rz5 := hMz.cell 5
      have rz6 := hMz.cell 6
      have rz7 := hMz.cell 7
      have rz8 := hMz.cell 8
      unfold nine at rz0 rz1 rz2 rz3 rz4 rz5 rz6 rz7 rz8
      simp only [List.getElem?_cons_succ, List.getElem?_cons_zero, Nat.zero_add] at rz0 rz1 rz2 rz3 rz4 rz5 rz6 rz7 rz8
      refine bodyPost_ret (v := .agg #[.int .i64 k, .int .i64 nn, .string ⟨s.toArray⟩, .slice P9 m9 p9, .int .i64 d.k, .int .i64 d.n, .string ⟨d.s.toArray⟩, .slice I8 L8 q8, .slice A8 j c8]) (by simp [results, Tryz.results52, go_sem, rz0, rz1, rz2, rz3, rz4, rz5, rz6, rz7, rz8]) rfl ⟨.slice P9 m9 p9, .slice I8 L8 q8, .slice A8 j c8, rfl, ?_, ?_⟩
      · refine NewT.of (M := w9.heap.size) (hP'.out.turns Tr (fun g hg hh => by have := (hp9'.out g hg).1; rcases hh with hh | hh <;> omega)) (fun g hg => by have := hp9'.out g hg; omega) (by omega) hw99 hI'.out Tr (fun g hg => by rcases hg with hg | hg <;> omega) (D0 := fun g => wr.heap.size ≤ g) ?_ (fun _ h => h)
        exact (Dat.ind (Dat.turns hO5'.out Tz (fun g _ hs hh => by have h9 := hsk'.out; rcases hh with hh | hh <;> omega))).mono (fun g _ hs => by have h9 := hsk'.out; omega)
      · exact hb.trans (Tr.below hb.size (fun g hg => by rcases hg with hg | hg <;> omega))
theorem numbered_any (t : Tm) : NmOk t := Tl.all_one NmOk nm_step t
end Go.Proofs.YtpiekdcbjkgipaaGreat

/- The reference of layer 10: Alpha. -/
namespace Go.Proofs.YtpiekdcbjkgipaaGreat
open Go.ChangeShapes Go.WideShapes Go.ChangeAt Go.RowKit Go.Deep
open TM (Tl Tm)

set_option maxRecDepth 100000 in
set_option maxHeartbeats 4000000 in
theorem ralpha_any (t : Tm) (w : World) (vp vi vk : Value) (h : TmIn w t vp vi vk) (hsd : TM.sd1 t = true) (hsz : TM.sz t.ks ≤ 5000) (hmany : (t.ps ++ TM.prs t.ks).length ≤ 1000000) :
    Calls Tryz.prog 33 #[tmv t vp vi vk] w fun e w' => ∃ vp' vi' vk', e = .returned (tmv (TM.alpha t) vp' vi' vk') ∧ TmIn w' (TM.alpha t) vp' vi' vk' ∧ Went w w' := by
  have hM := Lib.hid (fun (w' : World) (hb : Below w.heap.size w w') => params_any t w' vp vi vk (h.below hb) hmany)
  have hN := Lib.hid (fun (w' : World) (hb : Below w.heap.size w w') (vl : Value) (hl : PIn w' vl (t.ps ++ TM.prs t.ks)) => numbered_any t w' vl (t.ps ++ TM.prs t.ks) vp vi vk (h.below hb) hl hsd hsz)
  have hal : TM.nm1 (t.ps ++ TM.prs t.ks) t = TM.alpha t := rfl
  rw [hal] at hN
  unfold tmv at hM hN ⊢
  have hL1 := (Lies.made w 28 #[.int .i64 t.k, .int .i64 t.n, .string ⟨t.s.toArray⟩, vp, .int .i64 t.d.k, .int .i64 t.d.n, .string ⟨t.d.s.toArray⟩, vi, vk]).alloc (.cells #[.int .i64 0, .int .i64 0, .string ⟨#[]⟩, .slice none 0 0, .int .i64 0, .int .i64 0, .string ⟨#[]⟩, .slice none 0 0, .slice none 0 0] 28)
  have hz1 : (w.alloc (.cells #[.int .i64 t.k, .int .i64 t.n, .string ⟨t.s.toArray⟩, vp, .int .i64 t.d.k, .int .i64 t.d.n, .string ⟨t.d.s.toArray⟩, vi, vk] 28)).heap.size = w.heap.size + 1 := by simp
  have hL2 := Lies.made (w.alloc (.cells #[.int .i64 t.k, .int .i64 t.n, .string ⟨t.s.toArray⟩, vp, .int .i64 t.d.k, .int .i64 t.d.n, .string ⟨t.d.s.toArray⟩, vi, vk] 28)) 28 #[.int .i64 0, .int .i64 0, .string ⟨#[]⟩, .slice none 0 0, .int .i64 0, .int .i64 0, .string ⟨#[]⟩, .slice none 0 0, .slice none 0 0]
  rw [hz1] at hL2
  have hba : Below w.heap.size w ((w.alloc (.cells #[.int .i64 t.k, .int .i64 t.n, .string ⟨t.s.toArray⟩, vp, .int .i64 t.d.k, .int .i64 t.d.n, .string ⟨t.d.s.toArray⟩, vi, vk] 28)).alloc (.cells #[.int .i64 0, .int .i64 0, .string ⟨#[]⟩, .slice none 0 0, .int .i64 0, .int .i64 0, .string ⟨#[]⟩, .slice none 0 0, .slice none 0 0] 28)) := ((Below.refl _ w).alloc (Nat.le_refl _) _).alloc (by simp) _
  obtain ⟨W2, hW2⟩ : ∃ W2, ((w.alloc (.cells #[.int .i64 t.k, .int .i64 t.n, .string ⟨t.s.toArray⟩, vp, .int .i64 t.d.k, .int .i64 t.d.n, .string ⟨t.d.s.toArray⟩, vi, vk] 28)).alloc (.cells #[.int .i64 0, .int .i64 0, .string ⟨#[]⟩, .slice none 0 0, .int .i64 0, .int .i64 0, .string ⟨#[]⟩, .slice none 0 0, .slice none 0 0] 28)) = W2 := ⟨_, rfl⟩
  rw [hW2] at hL1 hL2 hba
  have hbd := below_drew1 hba
  have hlt2 : w.heap.size + 1 < W2.heap.size := hL2.lt
  clear h hz1 hal hsd hsz hmany
  go_enter Tryz.func33, Tryz.ntmps33
  go_upto_region 1 with fail
  refine wp_region_held_drew (S := fun w' => Lies w' w.heap.size 28 [.int .i64 t.k, .int .i64 t.n, .string ⟨t.s.toArray⟩, vp, .int .i64 t.d.k, .int .i64 t.d.n, .string ⟨t.d.s.toArray⟩, vi, vk] ∧ w.heap.size + 1 < w'.heap.size) rfl ⟨hL1.drew, hlt2⟩ (fun hHeld => ?_)
  refine wpAnyH_take (i := 0) (oi := { dst := some 3, op := Go.Op.load 28 (Go.Operand.tmp 1), type := 28, pos := "ref.go:145", after := #[], guard := none }) (v := _) rfl (by kernel_rfl) (by kernel_rfl) (by kernel_rfl) (fun _ _ _ h => h) (Or.inl ⟨by rfl, fun w' hS => load_term w' _ _ _ _ _ _ _ _ _ _ _ _ _ rfl rfl hS.1⟩) (by assumption) ?_
  try simp only [Act.put, List.setIfInBounds_toArray, List.set_cons_zero, List.set_cons_succ]
  refine wpAnyH_take (i := 1) (oi := { dst := some 4, op := Go.Op.load 28 (Go.Operand.tmp 1), type := 28, pos := "ref.go:145", after := #[], guard := none }) (v := _) rfl (by kernel_rfl) (by kernel_rfl) (by kernel_rfl) (fun _ _ _ h => h) (Or.inl ⟨by rfl, fun w' hS => load_term w' _ _ _ _ _ _ _ _ _ _ _ _ _ rfl rfl hS.1⟩) (by assumption) ?_
  try simp only [Act.put, List.setIfInBounds_toArray, List.set_cons_zero, List.set_cons_succ]
  refine wpAnyH_ready (rs := [2]) (by kernel_rfl) (by simp) ?_
  refine AllReadyH.cons (o := { dst := some 5, op := Go.Op.call { callee := Go.Callee.value (Go.Operand.func 26), args := #[Go.Operand.tmp 4], argTypes := #[28] }, type := 22, pos := "ref.go:145", after := #[{ on := 1, ground := Go.Ground.data }], guard := none }) rfl (fun K hK => ?_) AllReadyH.nil
  rw [if_pos (by rfl)]
  go_simp
  refine (hM.out _ hbd).mono ?_
  rintro e w5 ⟨v5, rfl, hO5, hb5⟩
  obtain ⟨P5, m5, p5, rfl⟩ := slice_of hO5
  have hM5 := hHeld.1.below hb5 hHeld.1.lt
  have hR5 := hL2.drew.below hb5 hL2.lt
  have c5 := Lib.hid (hbd.trans (Below.mono hb5 hbd.size))
  have hp5 := Lib.hid hO5.pin
  have hs5 := hR5.lt
  clear hb5 hO5 hHeld
  refine hK.out _ _ ⟨hM5, hs5⟩ (fun hHeld => ?_)
  clear hK K
  try simp only [Act.put, List.setIfInBounds_toArray, List.set_cons_zero, List.set_cons_succ]
  refine wpAnyH_ready (rs := [3]) (by kernel_rfl) (by simp) ?_
  refine AllReadyH.cons (o := { dst := some 6, op := Go.Op.call { callee := Go.Callee.value (Go.Operand.func 52), args := #[Go.Operand.tmp 3, Go.Operand.tmp 5], argTypes := #[28, 22] }, type := 28, pos := "ref.go:145", after := #[{ on := 0, ground := Go.Ground.data }, { on := 2, ground := Go.Ground.data }, { on := 2, ground := Go.Ground.chain }], guard := none }) rfl (fun K hK => ?_) AllReadyH.nil
  rw [if_pos (by rfl)]
  go_simp
  refine (hN.out _ c5.out _ hp5.out).mono ?_
  rintro e w7 ⟨v1, v2, v3, rfl, hT7, hb7⟩
  obtain ⟨P6, m6, p6, rfl⟩ : ∃ A m c, v1 = .slice A m c := by obtain ⟨A, c, e⟩ := hT7.tmin.p.read; exact ⟨_, _, _, e⟩
  obtain ⟨I6, l6, q6, rfl⟩ : ∃ A m c, v2 = .slice A m c := by obtain ⟨A, c, e⟩ := hT7.tmin.d.read; exact ⟨_, _, _, e⟩
  obtain ⟨K6, n6, r6, rfl⟩ : ∃ A m c, v3 = .slice A m c := by obtain ⟨A, c, e⟩ := hT7.tmin.k.read; exact ⟨_, _, _, e⟩
  have hM7 := hHeld.1.below hb7 hHeld.1.lt
  have hR7 := hR5.below hb7 hR5.lt
  have c7 := Lib.hid (c5.out.trans (Below.mono hb7 c5.out.size))
  have hT7' := Lib.hid hT7
  have hs7 := hR7.lt
  have hs57 := hs5
  clear hb7 hT7 hHeld
  refine hK.out _ _ ⟨hM7, hs7⟩ (fun hHeld => ?_)
  clear hK K
  try simp only [Act.put, List.setIfInBounds_toArray, List.set_cons_zero, List.set_cons_succ]
  have cz0 := hR7.cell 0
  have fz0 := hR7.free 0
  have cz1 := hR7.cell 1
  have fz1 := hR7.free 1
  have cz2 := hR7.cell 2
  have fz2 := hR7.free 2
  have cz3 := hR7.cell 3
  have fz3 := hR7.free 3
  have cz4 := hR7.cell 4
  have fz4 := hR7.free 4
  have cz5 := hR7.cell 5
  have fz5 := hR7.free 5
  have cz6 := hR7.cell 6
  have fz6 := hR7.free 6
  have cz7 := hR7.cell 7
  have fz7 := hR7.free 7
  have cz8 := hR7.cell 8
  have fz8 := hR7.free 8
  simp only [List.getElem?_cons_succ, List.getElem?_cons_zero] at cz0 cz1 cz2 cz3 cz4 cz5 cz6 cz7 cz8
  refine wpAnyH_ready (rs := [4]) (by kernel_rfl) (by simp) ?_
  refine AllReadyH.cons (o := { dst := none, op := Go.Op.store 28 (Go.Operand.tmp 2) (Go.Operand.tmp 6), type := 0, pos := "ref.go:145", after := #[{ on := 3, ground := Go.Ground.data }, { on := 3, ground := Go.Ground.chain }, { on := 0, ground := Go.Ground.phase }, { on := 1, ground := Go.Ground.phase }, { on := 2, ground := Go.Ground.phase }, { on := 3, ground := Go.Ground.phase }], guard := none }) rfl (fun K hK => ?_) AllReadyH.nil
  rw [if_pos (by rfl)]
  go_simp
  have hF := nine_far hHeld.1 (g := w.heap.size + 1) (by omega) 0 (.int .i64 (TM.alpha t).k) (.int .i64 (TM.alpha t).n) (.string ⟨(TM.alpha t).s.toArray⟩) (.slice P6 m6 p6) (.int .i64 (TM.alpha t).d.k) (.int .i64 (TM.alpha t).d.n) (.string ⟨(TM.alpha t).d.s.toArray⟩) (.slice I6 l6 q6) (.slice K6 n6 r6)
  have hs9 := hs7
  refine hK.out _ _ ⟨hF, by simp; exact hs9⟩ (fun hHeld2 => ?_)
  clear hK K hHeld hHeld2 hF
  try simp only [Act.put, List.setIfInBounds_toArray, List.set_cons_zero, List.set_cons_succ]
  refine wpAnyH_done (by kernel_rfl) ?_ _
  go_wp2_with fail
  have T9 := nine_turns (Turns.refl (fun g => g = w.heap.size + 1) w7) (g := w.heap.size + 1) (fun _ => rfl) 0 (.int .i64 (TM.alpha t).k) (.int .i64 (TM.alpha t).n) (.string ⟨(TM.alpha t).s.toArray⟩) (.slice P6 m6 p6) (.int .i64 (TM.alpha t).d.k) (.int .i64 (TM.alpha t).d.n) (.string ⟨(TM.alpha t).d.s.toArray⟩) (.slice I6 l6 q6) (.slice K6 n6 r6)
  have hMz := nine_res hR7 (w.heap.size + 1) rfl (.int .i64 (TM.alpha t).k) (.int .i64 (TM.alpha t).n) (.string ⟨(TM.alpha t).s.toArray⟩) (.slice P6 m6 p6) (.int .i64 (TM.alpha t).d.k) (.int .i64 (TM.alpha t).d.n) (.string ⟨(TM.alpha t).d.s.toArray⟩) (.slice I6 l6 q6) (.slice K6 n6 r6)
  have rz0 := hMz.cell 0
  have rz1 := hMz.cell 1
  have rz2 := hMz.cell 2
  have rz3 := hMz.cell 3
  have rz4 := hMz.cell 4
  have rz5 := hMz.cell 5
  have rz6 := hMz.cell 6
  have rz7 := hMz.cell 7
  have rz8 := hMz.cell 8
  unfold nine at rz0 rz1 rz2 rz3 rz4 rz5 rz6 rz7 rz8
  simp only [List.getElem?_cons_succ, List.getElem?_cons_zero, Nat.zero_add] at rz0 rz1 rz2 rz3 rz4 rz5 rz6 rz7 rz8
  refine bodyPost_ret (v := .agg #[.int .i64 (TM.alpha t).k, .int .i64 (TM.alpha t).n, .string ⟨(TM.alpha t).s.toArray⟩, .slice P6 m6 p6, .int .i64 (TM.alpha t).d.k, .int .i64 (TM.alpha t).d.n, .string ⟨(TM.alpha t).d.s.toArray⟩, .slice I6 l6 q6, .slice K6 n6 r6]) (by simp [results, Tryz.results33, go_sem, rz0, rz1, rz2, rz3, rz4, rz5, rz6, rz7, rz8]) rfl ⟨.slice P6 m6 p6, .slice I6 l6 q6, .slice K6 n6 r6, rfl, ?_, ?_⟩
  · exact (hT7'.out.turns T9 (fun g hg hB => by have h9 := hg; omega)).tmin
  · exact ((Turns.of_below c7.out (fun _ => False)).then T9 (fun i hi he => by omega)).below (Nat.le_refl _) (fun _ h => h.elim)
end Go.Proofs.YtpiekdcbjkgipaaGreat

/- The reference of layer 15: sets, Assigned. -/
namespace Go.Proofs.YtpiekdcbjkgipaaGreat
open Go.ChangeShapes Go.WideShapes Go.ChangeAt Go.RowKit Go.Deep
open TM (Tl Tm)

def sts1 (t : Tm) (l : List Int) : List Int := SC.sts t.ks (if t.k = 4 then SC.pti l t.n else l)
theorem sts_snoc : ∀ (d : Tl) (x : Tm) (l : List Int), SC.sts (d.snoc x) l = sts1 x (SC.sts d l)
  | .nil, x, l => by
    obtain ⟨k, n, s, ps, e, ks⟩ := x
    rfl
  | .cons k n s ps e ks r, x, l => by
    show SC.sts (r.snoc x) _ = _
    rw [sts_snoc r x]; rfl
theorem asg_sts (t : Tm) : SC.asg t = sts1 (TM.alpha t) [] := rfl
theorem Pl.below {w w' : World} {v : Value} {l : List Int} (h : Pl w v l) (k : Below w.heap.size w w') : Pl w' v l := ⟨h.1.below k, h.2⟩
theorem Pl.nil (w : World) : Pl w (.slice none 0 0) [] := ⟨Own.none_ w 0, fun _ => rfl⟩
def SeOk (t : Tm) : Prop := ∀ (w : World) (vp vi vk v : Value) (l : List Int), TmIn w t vp vi vk → Pl w v l → l.length + TM.sz t.ks + 1 ≤ 100000 →
  Calls Tryz.prog 32 #[tmv t vp vi vk, v] w fun e w' => ∃ v', e = .returned v' ∧ Pl w' v' (sts1 t l) ∧ Went w w'
set_option maxRecDepth 100000 in
set_option maxHeartbeats 8000000 in
theorem se_step (k n : Int) (s : List UInt8) (ps : List Int) (d : RM.Dm) (ks : Tl) (hR : ∀ i x, ks.at_ i = some x → SeOk x) : SeOk ⟨k, n, s, ps, d, ks⟩ := by
  intro w vp vi vk v l hT hv hlen
  obtain ⟨P3, p3, rfl⟩ := hT.p.read
  obtain ⟨I7, q7, rfl⟩ := hT.d.read
  obtain ⟨A1, c1, rfl⟩ := hT.k.read
  have hTk := hT.k
  have hkl := hTk.len
  simp only at hTk hkl hlen ⊢
  obtain ⟨N, hN⟩ : ∃ N, ks.len = N := ⟨_, rfl⟩
  obtain ⟨L3, hL3⟩ : ∃ x, ps.length = x := ⟨_, rfl⟩
  obtain ⟨L7, hL7⟩ : ∃ x, d.is.len = x := ⟨_, rfl⟩
  unfold tmv
  simp only
  rw [hN] at hTk hkl ⊢
  rw [hL3, hL7]
  obtain ⟨vA, vl, vc, rfl⟩ : ∃ A m c, v = .slice A m c := by obtain ⟨A, c, e, -⟩ := hv.1.read; exact ⟨_, _, _, e⟩
  have hM := Lies.made w 28 #[.int .i64 k, .int .i64 n, .string ⟨s.toArray⟩, .slice P3 L3 p3, .int .i64 d.k, .int .i64 d.n, .string ⟨d.s.toArray⟩, .slice I7 L7 q7, .slice A1 N c1]
  obtain ⟨W1, hW1⟩ : ∃ W1, w.alloc (.cells #[.int .i64 k, .int .i64 n, .string ⟨s.toArray⟩, .slice P3 L3 p3, .int .i64 d.k, .int .i64 d.n, .string ⟨d.s.toArray⟩, .slice I7 L7 q7, .slice A1 N c1] 28) = W1 := ⟨_, rfl⟩
  have hba : Below w.heap.size w W1 := by rw [← hW1]; exact (Below.refl _ w).alloc (Nat.le_refl _) _
  rw [hW1] at hM
  have y0 : W1.cell? ⟨w.heap.size, 0, none⟩ = some (.int .i64 k) := hM.cell 0
  have y1 : W1.cell? ⟨w.heap.size, 1, none⟩ = some (.int .i64 n) := hM.cell 1
  have y8 : W1.cell? ⟨w.heap.size, 8, none⟩ = some (.slice A1 N c1) := hM.cell 8
  have hP := Lib.hid (rput_any W1 _ l n (hv.below hba) (by omega))
  have hv1 := Lib.hid (hv.below hba)
  have hN' := Lib.hid hN
  have hR' := Lib.hid hR
  have hlen' := Lib.hid hlen
  have hM' := Lib.hid hM
  have hba' := Lib.hid hba
  obtain ⟨l1, hl1⟩ : ∃ l1, (if k = 4 then SC.pti l n else l) = l1 := ⟨_, rfl⟩
  have hl1' := Lib.hid hl1
  have hll : l1.length ≤ l.length + 1 := by
    rw [← hl1]
    split
    · exact SC.pti_len n l
    · omega
  have hll' := Lib.hid hll
  clear hT hv hN hR hlen hM hba hL3 hL7 hl1 hll
  go_enter Tryz.func32, Tryz.ntmps32
  go_upto_if 8 with fail
  go_cut [1] from 8 to 12 (fun s1 wx => ∃ (B : Option Addr) (m b : Nat), s1 = .slice B m b ∧ Hid (Pl wx (.slice B m b) l1) ∧ Lies wx w.heap.size 28 [.int .i64 k, .int .i64 n, .string ⟨s.toArray⟩, .slice P3 L3 p3, .int .i64 d.k, .int .i64 d.n, .string ⟨d.s.toArray⟩, .slice I7 L7 q7, .slice A1 N c1] ∧ Below w.heap.size w wx)
  case first =>
    by_cases h4 : k = 4
    · have e4 : (k == 4) = true := by simp [h4]
      have h4' := Lib.hid h4
      clear h4
      go_wp2_with (
        go_at_call 51
        refine hP.out.mono ?_
        rintro e w3 ⟨v3, rfl, hO3, hb3⟩
        obtain ⟨B3, m3, c3, rfl⟩ : ∃ B m c, v3 = .slice B m c := by obtain ⟨B, c, e, -⟩ := hO3.1.read; exact ⟨_, _, _, e⟩
        have R3 := Lib.hid (And.intro hO3 (And.intro (hM'.out.below hb3 hM'.out.lt) (hba'.out.trans (Below.mono hb3 hba'.out.size))))
        clear hO3 hb3)
      go_meet
      case rel => exact ⟨_, _, _, rfl, Lib.hid (by rw [← hl1'.out, if_pos h4'.out]; exact R3.out.1), R3.out.2.1, R3.out.2.2⟩
    · have e4 : (k == 4) = false := by simp [h4]
      have h4' := Lib.hid h4
      clear h4
      go_wp2_with fail
      go_meet
      case rel => exact ⟨_, _, _, rfl, Lib.hid (by rw [← hl1'.out, if_neg h4'.out]; exact hv1.out), hM'.out, hba'.out⟩
  case rest =>
  obtain ⟨B1, m1, b1, rfl, hPc, hMc, hbc⟩ := hcut
  clear y0 y1 y8 hP hv1 hM' hba' hW1
  have hMc' := Lib.hid hMc
  have hbc' := Lib.hid hbc
  clear hMc hbc
  go_wp2_with fail
  go_loopw [1, 5] (fun v1 i wr => ∃ (j : Nat) (B : Option Addr) (m b : Nat), j ≤ N ∧ i = .int .i64 j ∧ v1 = .slice B m b ∧ Hid (Pl wr (.slice B m b) (SC.sts (ks.tk j) l1)) ∧ Lies wr w.heap.size 28 [.int .i64 k, .int .i64 n, .string ⟨s.toArray⟩, .slice P3 L3 p3, .int .i64 d.k, .int .i64 d.n, .string ⟨d.s.toArray⟩, .slice I7 L7 q7, .slice A1 N c1] ∧ Below w.heap.size w wr) (fun _ i _ => N - (intOf i).toNat)
  case atStart => exact ⟨0, _, _, _, Nat.zero_le _, rfl, rfl, by rw [Tl.tk_zero]; exact hPc, hMc'.out, hbc'.out⟩
  case round =>
    obtain ⟨j, B, m, b, hj, rfl, rfl, hPr, hMr, hbr⟩ := hrel
    have y8 : wr.cell? ⟨w.heap.size, 8, none⟩ = some (.slice A1 N c1) := hMr.cell 8
    by_cases hlt : j < N
    · obtain ⟨x, hx⟩ := ks.at_some j (by rw [hN'.out]; exact hlt)
      obtain ⟨bb, o, P5, p5, I5, q5, K5, r5, rfl, hb0, c10, c11, c12, c13, c14, c15, c16, c17, c18, hT5⟩ := (hTk.below hbr).at_ hx
      have hs1 := SC.sts_len (ks.tk j) l1
      have hs2 := TM.sz_tk ks j
      have hs3 := TM.sz_at hx
      have hs4 := hlen'.out
      have hs5 := hll'.out
      have hC := Lib.hid (hR'.out j x hx wr _ _ _ _ _ hT5 hPr.out (by omega))
      have htk := Tl.tk_snoc ks j x hx
      have htk' := Lib.hid htk
      have hMr' := Lib.hid hMr
      have hbr' := Lib.hid hbr
      unfold tmv at hC
      clear hs1 hs2 hs3 hs4 hs5 htk hMr hbr hT5 hx
      go_wp2_with (
        go_at_call 32
        refine hC.out.mono ?_
        rintro e w7 ⟨v7, rfl, hO7, hb7⟩
        obtain ⟨B7, m7, c7, rfl⟩ : ∃ B m c, v7 = .slice B m c := by obtain ⟨B, c, e, -⟩ := hO7.1.read; exact ⟨_, _, _, e⟩
        have R7 := Lib.hid (And.intro hO7 (And.intro (hMr'.out.below hb7 hMr'.out.lt) (hbr'.out.trans (Below.mono hb7 hbr'.out.size))))
        clear hO7 hb7)
      go_roundw
      case rel => exact ⟨j + 1, _, _, _, by omega, by go_num, rfl, Lib.hid (by rw [htk'.out, sts_snoc]; exact R7.out.1), R7.out.2.1, R7.out.2.2⟩
      case measure => simp [intOf]; omega
    · obtain rfl : j = N := by omega
      have hall : ks.tk j = ks := by rw [← hN'.out]; exact Tl.tk_all ks
      rw [hall] at hPr
      have hbr' := Lib.hid hbr
      clear hall hbr hMr
      go_wp2_with fail
      go_ret
      exact ⟨_, rfl, by
        have := hPr.out
        rw [← hl1'.out] at this
        exact this, hbr'.out⟩
theorem rsets_any (t : Tm) : SeOk t := Tl.all_one _ se_step t
set_option maxRecDepth 100000 in
set_option maxHeartbeats 4000000 in
theorem rassigned_any (t : Tm) (w : World) (vp vi vk : Value) (h : TmIn w t vp vi vk) (hsd : TM.sd1 t = true) (hsz : TM.sz t.ks ≤ 5000) (hsa : TM.sz (TM.alpha t).ks ≤ 5000) (hmany : (t.ps ++ TM.prs t.ks).length ≤ 1000000) :
    Calls Tryz.prog 15 #[tmv t vp vi vk] w fun e w' => ∃ v, e = .returned v ∧ Own w' 0 v (SC.asg t) ∧ Went w w' := by
  have hA := Lib.hid (fun (w' : World) (hb : Below w.heap.size w w') => ralpha_any t w' vp vi vk (h.below hb) hsd hsz hmany)
  have hS := Lib.hid (fun (w' : World) (a1 a2 a3 : Value) (hi : TmIn w' (TM.alpha t) a1 a2 a3) => rsets_any (TM.alpha t) w' a1 a2 a3 _ [] hi (Pl.nil w') (by simp; omega))
  rw [asg_sts]
  generalize TM.alpha t = a at hA hS
  obtain ⟨P3, p3, rfl⟩ := h.p.read
  obtain ⟨I7, q7, rfl⟩ := h.d.read
  obtain ⟨A1, c1, rfl⟩ := h.k.read
  have hM := Lies.made w 28 #[.int .i64 t.k, .int .i64 t.n, .string ⟨t.s.toArray⟩, .slice P3 t.ps.length p3, .int .i64 t.d.k, .int .i64 t.d.n, .string ⟨t.d.s.toArray⟩, .slice I7 t.d.is.len q7, .slice A1 t.ks.len c1]
  have hba : Below w.heap.size w (w.alloc (.cells #[.int .i64 t.k, .int .i64 t.n, .string ⟨t.s.toArray⟩, .slice P3 t.ps.length p3, .int .i64 t.d.k, .int .i64 t.d.n, .string ⟨t.d.s.toArray⟩, .slice I7 t.d.is.len q7, .slice A1 t.ks.len c1] 28)) := (Below.refl _ w).alloc (Nat.le_refl _) _
  have y0 := hM.cell 0
  have y1 := hM.cell 1
  have y2 := hM.cell 2
  have y3 := hM.cell 3
  have y4 := hM.cell 4
  have y5 := hM.cell 5
  have y6 := hM.cell 6
  have y7 := hM.cell 7
  have y8 := hM.cell 8
  simp only [List.getElem?_cons_succ, List.getElem?_cons_zero] at y0 y1 y2 y3 y4 y5 y6 y7 y8
  have hba' := Lib.hid hba
  unfold tmv at hA hS ⊢
  clear hM h hba
  go_enter Tryz.func15, Tryz.ntmps15
  go_wp2_with (first
    | (go_at_call 33
       refine (hA.out _ hba'.out).mono ?_
       rintro e w2 ⟨vp6, vi6, vk6, rfl, hTo, hb2⟩
       obtain ⟨P6, m6, p6, rfl⟩ : ∃ A m c, vp6 = .slice A m c := by obtain ⟨A, c, e⟩ := hTo.p.read; exact ⟨_, _, _, e⟩
       obtain ⟨I6, l7, q6, rfl⟩ : ∃ A m c, vi6 = .slice A m c := by obtain ⟨A, c, e⟩ := hTo.d.read; exact ⟨_, _, _, e⟩
       obtain ⟨K6, n6, r6, rfl⟩ : ∃ A m c, vk6 = .slice A m c := by obtain ⟨A, c, e⟩ := hTo.k.read; exact ⟨_, _, _, e⟩
       have hTo' := Lib.hid hTo
       have hb3 := Lib.hid (hba'.out.trans (Below.mono hb2 hba'.out.size))
       clear hTo hb2)
    | (go_at_call 32
       refine (hS.out _ _ _ _ hTo'.out).mono ?_
       rintro e w4 ⟨v4, rfl, hO4, hb4⟩
       have R4 := Lib.hid (And.intro hO4 (hb3.out.trans (Below.mono hb4 hb3.out.size)))
       clear hO4 hb4))
  go_ret
  exact ⟨_, rfl, R4.out.1.1, R4.out.2⟩
end Go.Proofs.YtpiekdcbjkgipaaGreat

/- The reference of layer 15: ribs that can be read; place. -/
namespace Go.Proofs.YtpiekdcbjkgipaaGreat
open Go.ChangeShapes Go.WideShapes Go.ChangeAt Go.RowKit Go.Deep

/-- ribs that can be read, the outermost one first -/
def RIn (w : World) (v : Value) (Rs : List (List Int)) : Prop := ∃ A c, v = .slice A Rs.length c ∧ Rs.length ≤ 1000 ∧ ∃ b o, (0 < Rs.length → A = some ⟨b, o, none⟩ ∧ b < w.heap.size) ∧ ∀ j r, Rs[j]? = some r → ∃ u, w.cell? ⟨b, o + j, none⟩ = some u ∧ PIn w u r ∧ r.length ≤ 1000
theorem RIn.below {w w' : World} {v : Value} {Rs : List (List Int)} (h : RIn w v Rs) (k : Below w.heap.size w w') : RIn w' v Rs := by
  obtain ⟨A, c, e, hl, b, o, h1, h2⟩ := h
  refine ⟨A, c, e, hl, b, o, fun h0 => ⟨(h1 h0).1, Nat.lt_of_lt_of_le (h1 h0).2 k.size⟩, fun j r hr => ?_⟩
  have hj := (List.getElem?_eq_some_iff.1 hr).1
  obtain ⟨u, hu, hp, hq⟩ := h2 j r hr
  exact ⟨u, (k.cell (p := ⟨b, o + j, none⟩) (h1 (by omega)).2).trans hu, hp.below k, hq⟩
theorem RIn.nil (w : World) : RIn w (.slice none 0 0) [] := ⟨_, _, rfl, by simp, 0, 0, fun h => absurd h (by simp), fun j r h => by simp at h⟩
namespace SC
theorem plu_step {u : Nat} {r : List Int} {R : List (List Int)} {n : Int} (h : ¬ n ∈ r) : plu u (r :: R) n = plu (u + 1) R n := by
  rw [plu, if_neg (by simpa using h)]
theorem plu_hit {u i : Nat} {r : List Int} {R : List (List Int)} {n : Int} (h : r[i]? = some n) (h0 : ¬ n ∈ r.take i) : plu u (r :: R) n = 32 * (u : Int) + i := by
  have hm : n ∈ r := List.mem_of_getElem? h
  have hi := (List.getElem?_eq_some_iff.1 h).1
  have hx : r.idxOf n = i := by
    have e := List.take_append_drop i r
    obtain ⟨_, hg⟩ := List.getElem?_eq_some_iff.1 h
    have e2 : r.drop i = n :: r.drop (i + 1) := by rw [List.drop_eq_getElem_cons hi, hg]
    rw [← e, List.idxOf_append, if_neg h0, e2, List.idxOf_cons_self, List.length_take]
    omega
  rw [plu, if_pos (by simpa using hm), hx]
end SC
set_option maxRecDepth 100000 in
set_option maxHeartbeats 8000000 in
theorem rplace_any (w : World) (v : Value) (Rs : List (List Int)) (n : Int) (h : RIn w v Rs) :
    Calls Tryz.prog 50 #[v, .int .i64 n] w fun e w' => e = .returned (.int .i64 (SC.plu 0 Rs.reverse n)) ∧ w' = w := by
  obtain ⟨A, c, rfl, hl, b, o, h1, h2⟩ := h
  obtain ⟨N, hN⟩ : ∃ x, Rs.length = x := ⟨_, rfl⟩
  obtain ⟨R, hR⟩ : ∃ x, Rs.reverse = x := ⟨_, rfl⟩
  obtain ⟨q, hq⟩ : ∃ x, SC.plu 0 R n = x := ⟨_, rfl⟩
  rw [hR, hq]
  rw [hN] at hl h1 ⊢
  have hN' := Lib.hid hN
  have hRl : ∀ u, u < N → ∃ l, R[u]? = some l ∧ Rs[N - 1 - u]? = some l ∧ R.drop u = l :: R.drop (u + 1) := fun u hu => by
    have hlt : u < R.length := by rw [← hR, List.length_reverse, hN]; exact hu
    refine ⟨R[u], List.getElem?_eq_getElem hlt, ?_, List.drop_eq_getElem_cons hlt⟩
    have e : R[u]? = Rs[N - 1 - u]? := by
      rw [← hR, List.getElem?_reverse (by rw [hN]; exact hu), hN]
    rw [← e, List.getElem?_eq_getElem hlt]
  have hRl' := Lib.hid hRl
  have h1' := Lib.hid h1
  have h2' := Lib.hid h2
  have hRn : R.length = N := by rw [← hR, List.length_reverse, hN]
  have hRn' := Lib.hid hRn
  have hq' := Lib.hid hq
  clear hRl h1 h2 hN hR hq hRn
  go_enter Tryz.func50, Tryz.ntmps50
  go_wp2_with fail
  go_loopw [5] (fun i wr => ∃ (u : Nat), u ≤ N ∧ i = .int .i64 u ∧ Hid (SC.plu u (R.drop u) n = q) ∧ wr = w) (fun i _ => N - (intOf i).toNat)
  case atStart => exact ⟨0, Nat.zero_le _, rfl, Lib.hid (by rw [List.drop_zero]; exact hq'.out), rfl⟩
  case round =>
    obtain ⟨u, hu, rfl, hpl, rfl⟩ := hrel
    by_cases hlt : u < N
    · obtain ⟨l, hl1, hl2, hl3⟩ := hRl'.out u hlt
      obtain ⟨x, hx, hpx, hM1⟩ := h2'.out _ _ hl2
      obtain ⟨rfl, hb⟩ := h1'.out (by omega)
      obtain ⟨B, d, rfl⟩ := hpx.read
      obtain ⟨M, hM⟩ : ∃ M, l.length = M := ⟨_, rfl⟩
      have hMl := hpx.len
      obtain ⟨m, hm⟩ : ∃ m, N - 1 - u = m := ⟨_, rfl⟩
      rw [hm] at hx hl2
      have en : (N : Int) - 1 - u = (m : Int) := by omega
      rw [hM] at hx hpx hMl hM1
      have hM' := Lib.hid hM
      have hpx' := Lib.hid hpx
      have hl3' := Lib.hid hl3
      have hmN : m < N := by omega
      clear hM hpx hl3 hl1 hl2 hm
      have hpl' := Lib.hid hpl
      clear hpl
      go_wp2_with fail
      go_loopw [7] (fun i wr2 => ∃ (j : Nat), j ≤ M ∧ i = .int .i64 j ∧ Hid (¬ n ∈ l.take j) ∧ wr2 = wr) (fun i _ => M - (intOf i).toNat)
      case atStart => exact ⟨0, Nat.zero_le _, rfl, Lib.hid (by simp), rfl⟩
      case round =>
        obtain ⟨j, hj, rfl, hnj, hw2⟩ := hrel
        subst hw2
        by_cases hjl : j < M
        · have hy : l[j]? = some (l[j]'(by rw [hM'.out]; exact hjl)) := List.getElem?_eq_getElem _
          obtain ⟨y, hye⟩ : ∃ y, l[j]'(by rw [hM'.out]; exact hjl) = y := ⟨_, rfl⟩
          rw [hye] at hy
          obtain ⟨b2, o2, rfl, hb2, p2⟩ := hpx'.out.cell hy
          have hy' := Lib.hid hy
          clear hy hye
          by_cases hyn : y = n
          · subst hyn
            go_wp2_with fail
            go_ret
            exact ⟨by
              have h := hpl'.out
              rw [hl3'.out, SC.plu_hit hy'.out hnj.out] at h
              rw [← h]; rfl, rfl⟩
          · have e1 : (y == n) = false := by simp [hyn]
            have hyn' := Lib.hid hyn
            clear hyn
            go_wp2_with fail
            go_roundw
            case rel => exact ⟨j + 1, by omega, by go_num, Lib.hid (by
              rw [List.take_add_one, hy'.out]
              intro h
              rcases List.mem_append.1 h with h | h
              · exact hnj.out h
              · simp at h; exact hyn'.out h.symm), trivial⟩
            case measure => simp [intOf]; omega
        · obtain rfl : j = M := by omega
          have e1 : l.take j = l := by rw [← hM'.out]; exact List.take_length
          rw [e1] at hnj
          clear e1
          go_wp2_with fail
          go_roundw
          case rel => exact ⟨u + 1, by omega, by go_num, Lib.hid (by
            have h := hpl'.out
            rw [hl3'.out, SC.plu_step hnj.out] at h
            exact h), trivial⟩
          case measure => simp [intOf]; omega
    · obtain rfl : u = N := by omega
      have e : SC.plu u (R.drop u) n = -1 := by rw [List.drop_of_length_le (by rw [hRn'.out]; exact Nat.le_refl _)]; rfl
      have e' := Lib.hid (e.symm.trans hpl.out)
      clear e
      go_wp2_with fail
      go_ret
      exact ⟨by rw [← e'.out]; rfl, rfl⟩
end Go.Proofs.YtpiekdcbjkgipaaGreat

/- The reference of layer 15: what resolved needs: ribs that can be read in worlds that agree, one more rib behind them, one more term behind a row. -/
namespace Go.Proofs.YtpiekdcbjkgipaaGreat
open Go.ChangeShapes Go.WideShapes Go.ChangeAt Go.RowKit Go.Deep
open TM (Tl Tm)

theorem RIn.agr {w w' : World} {v : Value} {Rs : List (List Int)} (h : RIn w v Rs) (k : Agr (fun g => g < w.heap.size) w w') : RIn w' v Rs := by
  obtain ⟨A, c, e, hl, b, o, h1, h2⟩ := h
  refine ⟨A, c, e, hl, b, o, fun h0 => ⟨(h1 h0).1, Nat.lt_of_lt_of_le (h1 h0).2 k.size⟩, fun j r hr => ?_⟩
  have hj := (List.getElem?_eq_some_iff.1 hr).1
  obtain ⟨u, hu, hp, hq⟩ := h2 j r hr
  exact ⟨u, (k.all (p := ⟨b, o + j, none⟩) (h1 (by omega)).2).trans hu, hp.agr k, hq⟩
theorem go_heap_old (w : World) (o : Obj) (g : Nat) (h : g < w.heap.size) : (w.alloc o).heap[g]? = w.heap[g]? := Below.heap_alloc w o g h
theorem Agr.alloc {D : Nat → Prop} {a w : World} (h : Agr D a w) (o : Obj) : Agr D a (w.alloc o) :=
  ⟨Nat.le_trans h.size (by simp), fun g hg hd => (go_heap_old w o g (Nat.lt_of_lt_of_le hg h.size)).trans (h.block g hg hd)⟩
theorem Agr.then_ {D X : Nat → Prop} {a w w' : World} (h : Agr D a w) (k : Turns X w w') (hx : ∀ g, g < a.heap.size → D g → ¬ X g) : Agr D a w' :=
  ⟨Nat.le_trans h.size k.size, fun g hg hd => (k.block g (Nat.lt_of_lt_of_le hg h.size) (hx g hg hd)).trans (h.block g hg hd)⟩
theorem Agr.cell_ {D : Nat → Prop} {a w : World} (h : Agr D a w) {g o : Nat} {u : Value} (hg : g < a.heap.size) (hd : D g) (hu : a.cell? ⟨g, o, none⟩ = some u) : w.cell? ⟨g, o, none⟩ = some u := by
  rw [← hu]
  unfold World.cell?
  rw [h.block g hg hd]
/-- ribs that can be read whatever lies in the block b -/
def RD (w : World) (b : Nat) (v : Value) (Rs : List (List Int)) : Prop := ∀ w', Agr (fun g => g ≠ b) w w' → RIn w' v Rs
theorem RD.agr {w w' : World} {b : Nat} {v : Value} {Rs : List (List Int)} (h : RD w b v Rs) (k : Agr (fun g => g ≠ b) w w') : RD w' b v Rs := fun w2 k2 => h w2 (k.trans k2)
theorem RD.rin {w : World} {b : Nat} {v : Value} {Rs : List (List Int)} (h : RD w b v Rs) : RIn w v Rs := h w (Agr.refl _ _)
theorem RIn.rd {w w2 : World} {b : Nat} {v : Value} {Rs : List (List Int)} (h : RIn w v Rs) (hb : w.heap.size ≤ b) (k : Below w.heap.size w w2) : RD w2 b v Rs := fun w' k' =>
  h.agr ⟨Nat.le_trans k.size k'.size, fun g hg _ => (k'.block g (Nat.lt_of_lt_of_le hg k.size) (by omega)).trans (k.block g hg)⟩
theorem Tryz.infoRib : (Tryz.prog.info? 93).map (fun i => (i.zero, i.size, i.bytes)) = some (some (.agg #[.slice none 0 0]), 1, 24) := by kernel_rfl
/-- the cells of ribs -/
def Rx (w : World) (us : List Value) (Rs : List (List Int)) : Prop := us.length = Rs.length ∧ ∀ (j : Nat) (r : List Int), Rs[j]? = some r → ∃ u, us[j]? = some u ∧ PIn w u r ∧ r.length ≤ 1000
set_option maxRecDepth 100000 in
theorem RIn.raw {w : World} {A : Option Addr} {n c : Nat} {Rs : List (List Int)} (h : RIn w (.slice A n c) Rs) : n = Rs.length ∧ n ≤ 1000 ∧ ∃ us, Rx w us Rs ∧ ∀ a, A = some a → ∀ j u, us[j]? = some u → w.cell? (a.add j) = some u ∧ u.oneCell' = true := by
  obtain ⟨A', c', e, hl, b, o, h1, h2⟩ := h
  injection e with e1 e2 e3
  subst e1 e2
  have each : ∀ j, ∃ u : Value, j < Rs.length → ∃ r, Rs[j]? = some r ∧ w.cell? ⟨b, o + j, none⟩ = some u ∧ PIn w u r ∧ r.length ≤ 1000 := by
    intro j
    by_cases hj : j < Rs.length
    · obtain ⟨u, hu, hp, hq⟩ := h2 j Rs[j] (List.getElem?_eq_getElem hj)
      exact ⟨u, fun _ => ⟨_, List.getElem?_eq_getElem hj, hu, hp, hq⟩⟩
    · exact ⟨.nilIface, fun h => absurd h hj⟩
  obtain ⟨F, hF⟩ := Classical.axiomOfChoice each
  refine ⟨rfl, hl, (List.range Rs.length).map F, ⟨by simp, fun j r hr => ?_⟩, fun a ha j u hu => ?_⟩
  · have hj := (List.getElem?_eq_some_iff.1 hr).1
    obtain ⟨r', hr', hu, hp, hq⟩ := hF j hj
    rw [hr] at hr'
    cases hr'
    exact ⟨F j, by simp [hj], hp, hq⟩
  · have hj : j < Rs.length := by have := (List.getElem?_eq_some_iff.1 hu).1; simpa using this
    have h0 := (h1 (by omega)).1
    rw [ha] at h0
    injection h0 with h0
    subst h0
    rw [List.getElem?_map, List.getElem?_range hj] at hu
    simp only [Option.map_some, Option.some.injEq] at hu
    subst hu
    obtain ⟨r', hr', hc, hp, hq⟩ := hF j hj
    rw [add_plain]
    exact ⟨hc, by obtain ⟨_, _, e⟩ := hp.read; rw [e]; rfl⟩
section
variable {w w' : World} {B : Nat} {v x : Value}
theorem run_append_nothing_r {n : Nat} {xs : List Value} (c : Nat) (t ty : TypeId) (i : TypeInfo) (ht : Tryz.prog.underlying t = some (.slice 93)) (hi : Tryz.prog.info? 93 = some i) (hown : w.ownsRow B 93 1 v n xs) :
    (Builtin.append_ #[t, t] ty #[v, .slice none 0 c]).run Tryz.prog w = .ok v w := by
  rcases hown.2 with ⟨rfl, rfl⟩ | ⟨g, cap, cur, rfl, _, _, hnc, _⟩
  · simp [Builtin.append_, run_underlying ht, sizeOf, typeInfo, hi, Builtin.lenOf, Builtin.firstCells]
  · simp [Builtin.append_, run_underlying ht, sizeOf, typeInfo, hi, Builtin.lenOf, Builtin.firstCells, hnc, storeCells]
set_option maxRecDepth 100000 in
/-- ribs put behind an empty row of one's own -/
theorem run_append_ribs (t ty : TypeId) (ht : Tryz.prog.underlying t = some (.slice 93)) {Rs : List (List Int)} (h : w.ownsRow B 93 1 v 0 []) (k : RIn w x Rs) (hB : B ≤ w.heap.size) :
    ∃ v' w' us, (Builtin.append_ #[t, t] ty #[v, x]).run Tryz.prog w = .ok v' w' ∧ w'.ownsRow B 93 1 v' Rs.length us ∧ Rx w us Rs ∧ w.grownBy w' v.ownBlock := by
  obtain ⟨i0, hi, hz0, hz1, hz2⟩ := info_parts Tryz.infoRib
  obtain ⟨A, c, rfl⟩ : ∃ A c, x = .slice A Rs.length c := by obtain ⟨A, c, e, _⟩ := k; exact ⟨A, c, e⟩
  obtain ⟨-, hl, us, hus, hcell⟩ := k.raw
  cases A with
  | none =>
    have h0 : Rs = [] := by
      obtain ⟨A', c', e, _, b, o, h1, _⟩ := k
      injection e with e1 e2 e3
      rcases Nat.eq_zero_or_pos Rs.length with h | h
      · exact List.eq_nil_of_length_eq_zero h
      · have := (h1 h).1; rw [← e1] at this; cases this
    subst h0
    have hu0 : us = [] := List.eq_nil_of_length_eq_zero hus.1
    subst hu0
    exact ⟨v, w, [], run_append_nothing_r c t ty i0 ht hi h, h, hus, World.grownBy.refl w _⟩
  | some a =>
    have hcells : ∀ j u, us[j]? = some u → w.cell? (a.add j) = some u := fun j u hu => (hcell a rfl j u hu).1
    obtain ⟨v', w', hr, h2, h3, _, h5⟩ := run_append_own_at (P := Tryz.prog) (ty := ty) w B t 93 i0 _ 1 24 ht hi hz0 hz1 hz2 rfl (by decide) v _ _ h a Rs.length c us (by rw [hus.1]; simp) hcells
      (fun u hu => by obtain ⟨j, hj, rfl⟩ := List.mem_iff_getElem.1 hu; exact (hcell a rfl j _ (List.getElem?_eq_getElem hj)).2) (by unfold maxLen; omega) (by omega) hB
    refine ⟨v', w', us, hr, ?_, hus, h3⟩
    rw [Nat.zero_add, List.nil_append] at h2
    exact h2
end
end Go.Proofs.YtpiekdcbjkgipaaGreat

/- The reference of layer 15: what resolved needs: a row of ribs made anew, one more term behind a row, a term whose data was made ahead of its kids. -/
namespace Go.Proofs.YtpiekdcbjkgipaaGreat
open Go.ChangeShapes Go.WideShapes Go.ChangeAt Go.RowKit Go.Deep
open TM (Tl Tm)

section
variable {w w0 wd : World} {B : Nat} {v x u : Value} {us : List Value} {Rs : List (List Int)}
/-- the ribs of a world gone by, put behind an empty row of one's own -/
theorem wp_append_ribs {o : Oper} {a : Act} {K : Act → World → Prop} {Q : Exit → Act → World → Prop} (s y : Operand) (t : TypeId)
    (ho : o.op = .call { callee := .builtin .append, args := #[s, y], argTypes := #[t, t] }) (ht : Tryz.prog.underlying t = some (.slice 93)) {A : Option Addr} {n c : Nat}
    (hs : a.eval s = v) (hy : a.eval y = .slice A n c) (h : wd.ownsRow B 93 1 v 0 []) (hn : n = us.length) (hl : n ≤ 1000) (hz : A = none → us = []) (hcell : ∀ a', A = some a' → ∀ j z, us[j]? = some z → w0.cell? (a'.add j) = some z ∧ z.oneCell' = true) (k : Below w0.heap.size w0 wd) (hw0 : ∀ a', A = some a' → us ≠ [] → a'.block < w0.heap.size) (hB : B ≤ wd.heap.size)
    (hq : ∀ v' w', w'.ownsRow B 93 1 v' n us → wd.grownBy w' v.ownBlock → (v'.ownBlock = v.ownBlock ∨ v'.ownBlock = some wd.heap.size) → K (a.put o.dst v') w') : o.wp Tryz.prog a wd K Q := by
  obtain ⟨i0, hi, hz0, hz1, hz2⟩ := info_parts Tryz.infoRib
  obtain ⟨v', w', hr, h2, h3, h4⟩ : ∃ v' w', (Builtin.append_ #[t, t] o.type #[v, .slice A n c]).run Tryz.prog wd = .ok v' w' ∧ w'.ownsRow B 93 1 v' n us ∧ wd.grownBy w' v.ownBlock ∧ (v'.ownBlock = v.ownBlock ∨ v'.ownBlock = some wd.heap.size) := by
    cases A with
    | none =>
      obtain rfl := hz rfl
      obtain rfl : n = 0 := hn
      exact ⟨v, wd, run_append_nothing_r c t o.type i0 ht hi h, h, World.grownBy.refl wd _, .inl rfl⟩
    | some a' =>
      obtain ⟨v', w', hr, h2, h3, _, h4⟩ := run_append_own_at (P := Tryz.prog) (ty := o.type) wd B t 93 i0 _ 1 24 ht hi hz0 hz1 hz2 rfl (by decide) v _ _ h a' n c us (by rw [hn]; simp)
        (fun j z hz => by
          have hne : us ≠ [] := fun e => by rw [e] at hz; simp at hz
          exact (Below.cell k (p := a'.add j) (by have h9 := hw0 a' rfl hne; unfold Addr.add; split <;> exact h9)).trans (hcell a' rfl j z hz).1)
        (fun z hz => by obtain ⟨j, hj, rfl⟩ := List.mem_iff_getElem.1 hz; exact (hcell a' rfl j _ (List.getElem?_eq_getElem hj)).2) (by unfold maxLen; omega) (by omega) hB
      refine ⟨v', w', hr, ?_, h3, h4⟩
      rw [Nat.zero_add, List.nil_append] at h2
      exact h2
  unfold Oper.wp execOp
  simp only [ho, resolve, invoke, builtin, Sem.run_bind, Sem.run_pure, Result.andThen_ok, List.map_toArray, List.map_cons, List.map_nil, hs, hy, hr]
  exact hq v' w' h2 h3 h4
/-- one more rib behind them -/
theorem RIn.plus {ps : List Int} {bo : Nat} (hx : Rx w0 us Rs) (hu : PIn w0 u ps) (hps : ps.length ≤ 1000) (hl : Rs.length + 1 ≤ 1000) (h : wd.ownsRow B 93 1 v (Rs.length + 1) (us ++ [u])) (k : Below w0.heap.size w0 wd) (hb : w0.heap.size ≤ bo) (hv : ∀ g, v.ownBlock = some g → g ≠ bo) : RD wd bo v (Rs ++ [ps]) := by
  intro w' kw
  have k0 : Below w0.heap.size w0 wd := k
  have hag : Agr (fun g => g < w0.heap.size) w0 w' := ⟨Nat.le_trans k.size kw.size, fun g hg _ => (kw.block g (Nat.lt_of_lt_of_le hg k.size) (by omega)).trans (k.block g hg)⟩
  rcases h.2 with ⟨_, h0⟩ | ⟨g, cap, cur, rfl, hgB, hgc, _⟩
  · exact absurd h0 (by omega)
  · have hlt : g < wd.heap.size := (Array.getElem?_eq_some_iff.1 hgc).1
    have hne : g ≠ bo := hv g rfl
    refine ⟨_, cap, by rw [List.length_append]; rfl, by rw [List.length_append]; exact hl, g, 0, fun _ => ⟨rfl, Nat.lt_of_lt_of_le hlt kw.size⟩, fun j r hr => ?_⟩
    have hj : j < Rs.length + 1 := by have := (List.getElem?_eq_some_iff.1 hr).1; simpa using this
    have hc : w'.cell? ⟨g, 0 + j, none⟩ = (us ++ [u])[j]? := by
      rw [Nat.zero_add, ← World.ownsRow.cellAt h j (by omega)]
      unfold World.cell?
      rw [kw.block g hlt hne]
    have hxl := hx.1
    by_cases hjl : j < Rs.length
    · rw [List.getElem?_append_left hjl] at hr
      obtain ⟨z, hz, hp, hq⟩ := hx.2 j r hr
      exact ⟨z, by rw [hc, List.getElem?_append_left (by omega)]; exact hz, hp.agr hag, hq⟩
    · obtain rfl : j = Rs.length := by omega
      rw [List.getElem?_append_right (Nat.le_refl _), Nat.sub_self] at hr
      cases hr
      exact ⟨u, by rw [hc, List.getElem?_append_right (by omega), hxl, Nat.sub_self]; rfl, hu.agr hag, hps⟩
end
/-- ribs that can be read whatever lies in the blocks outside D -/
def RDD (w : World) (D : Nat → Prop) (v : Value) (Rs : List (List Int)) : Prop := ∀ w', Agr D w w' → RIn w' v Rs
theorem RDD.agr {w w' : World} {D : Nat → Prop} {v : Value} {Rs : List (List Int)} (h : RDD w D v Rs) (k : Agr D w w') : RDD w' D v Rs := fun w2 k2 => h w2 (k.trans k2)
theorem RDD.mono {w : World} {D D' : Nat → Prop} {v : Value} {Rs : List (List Int)} (h : RDD w D v Rs) (hd : ∀ g, g < w.heap.size → D g → D' g) : RDD w D' v Rs := fun w2 k2 => h w2 (k2.mono hd)
theorem RDD.rin {w : World} {D : Nat → Prop} {v : Value} {Rs : List (List Int)} (h : RDD w D v Rs) : RIn w v Rs := h w (Agr.refl _ _)
theorem RDD.turns {w w' : World} {D X : Nat → Prop} {v : Value} {Rs : List (List Int)} (h : RDD w D v Rs) (k : Turns X w w') (hx : ∀ g, g < w.heap.size → D g → ¬ X g) : RDD w' D v Rs := h.agr (Agr.of_turns k hx)
/-- a term whose data and params were made ahead of its kids -/
theorem NewT.of2 {B M : Nat} {wr w : World} {t : Tm} {vp vi vk : Value} {X D0 : Nat → Prop} (hp : Own w 0 vp t.ps) (hpb : ∀ g, vp.ownBlock = some g → (B ≤ g ∧ g < M) ∧ ¬ D0 g) (hBM : B ≤ M) (hMw : M ≤ wr.heap.size) (hk : NewR M wr t.ks vk) (hkt : Turns X wr w) (hX : ∀ g, X g → g < M)
    (hd : InD w D0 vi t.d.is) (hdb : ∀ g, D0 g → B ≤ g ∧ g < M) : NewT B w t vp vi vk := by
  obtain ⟨D, S, cs, h0, h1, hv, h2, h3, h4⟩ := hk
  have hsz := hkt.size
  refine ⟨fun g => D g ∨ D0 g, fun g => S g ∨ vk.ownBlock = some g ∨ vp.ownBlock = some g, ⟨cs, hp, fun g hg => .inr (.inr hg), hd.mono (fun g hg h => .inr h), own_turns h0 hkt (fun g hg hx => by have := hX g hx; have := (hv g hg).1.1; omega), fun g hg => .inr (.inl hg), ?_⟩, ?_, ?_, ?_⟩
  · refine TAt.mono (S := S) (fun g _ hs => ⟨.inl hs, fun e => (hv g e).2.1 hs, fun e => ?_⟩) (TAt.dmono (fun g _ h => .inl h) (TAt.turns hkt (fun g _ hs hx => by have := hX g hx; have := (h2 g hs).1; omega) (fun g _ hs hx => by have := hX g hx; have := (h3 g hs).1; omega) h1))
    have := (hpb g e).1.2
    have := (h2 g hs).1
    omega
  · intro g hg
    rcases hg with hg | hg | hg
    · have := h2 g hg; omega
    · have := (hv g hg).1; omega
    · have h5 := (hpb g hg).1.1
      have := (hp.lt g hg).2
      omega
  · intro g hg
    rcases hg with hg | hg
    · have := h3 g hg; omega
    · have := hdb g hg
      exact ⟨by omega, by omega⟩
  · intro g hs hd
    rcases hd with hd | hd
    · rcases hs with hs | hs | hs
      · exact h4 g hs hd
      · exact (hv g hs).2.2 hd
      · have := (hpb g hs).1.2; have := (h3 g hd).1; omega
    · have h6 := hdb g hd
      rcases hs with hs | hs | hs
      · have := (h2 g hs).1; omega
      · have := (hv g hs).1.1; omega
      · exact (hpb g hs).2 hd
/-- a new term's data and params -/
theorem NewT.two {B : Nat} {w : World} {t : Tm} {vp vi vk : Value} (h : NewT B w t vp vi vk) : ∃ D0 : Nat → Prop, Own w 0 vp t.ps ∧ InD w D0 vi t.d.is ∧ (∀ g, vp.ownBlock = some g → (B ≤ g ∧ g < w.heap.size) ∧ ¬ D0 g) ∧ ∀ g, D0 g → B ≤ g ∧ g < w.heap.size := by
  obtain ⟨D, S, ⟨c1, h5, h6, h7, _⟩, h2, h3, h4⟩ := h
  exact ⟨D, h5, h7, fun g hg => ⟨h2 g (h6 g hg), fun hd => h4 g (h6 g hg) hd⟩, h3⟩
/-- one more term behind them, as a step -/
theorem wp_append_new {o : Oper} {a : Act} {K : Act → World → Prop} {Q : Exit → Act → World → Prop} {B : Nat} {wr w3 : World} {out : Tl} {x : Tm} {v8 u1 u2 u3 : Value} (s u : Operand)
    (ho : o.op = .call { callee := .builtin .append, args := #[s, u], argTypes := #[26, 26] }) (hs : a.eval s = v8) (hu : a.eval u = .slice (some ⟨w3.heap.size, 0, none⟩) 1 1)
    (hR : NewR B wr out v8) (hb : Below wr.heap.size wr w3) (hB : B ≤ wr.heap.size) (hx : NewT wr.heap.size w3 x u1 u2 u3) (hn : out.len + 1 ≤ 1000000)
    (hq : ∀ v9 w9, NewR B w9 (out.snoc x) v9 → Turns (fun g => v8.ownBlock = some g) (w3.alloc (.cells #[.int .i64 x.k, .int .i64 x.n, .string ⟨x.s.toArray⟩, u1, .int .i64 x.d.k, .int .i64 x.d.n, .string ⟨x.d.s.toArray⟩, u2, u3] 28)) w9 → K (a.put o.dst v9) w9) :
    o.wp Tryz.prog a (w3.alloc (.cells #[.int .i64 x.k, .int .i64 x.n, .string ⟨x.s.toArray⟩, u1, .int .i64 x.d.k, .int .i64 x.d.n, .string ⟨x.d.s.toArray⟩, u2, u3] 28)) K Q := by
  obtain ⟨D, S, cs, h0, h1, hv, h2, h3, h4⟩ := hR
  obtain ⟨D5, S5, hT5, hS5, hD5, hSD5⟩ := hx
  have T0 : Turns (fun _ => False) wr (w3.alloc (.cells #[.int .i64 x.k, .int .i64 x.n, .string ⟨x.s.toArray⟩, u1, .int .i64 x.d.k, .int .i64 x.d.n, .string ⟨x.d.s.toArray⟩, u2, u3] 28)) := (Turns.of_below hb _).alloc _
  have T3 : Turns (fun _ => False) w3 (w3.alloc (.cells #[.int .i64 x.k, .int .i64 x.n, .string ⟨x.s.toArray⟩, u1, .int .i64 x.d.k, .int .i64 x.d.n, .string ⟨x.d.s.toArray⟩, u2, u3] 28)) := (Turns.refl _ _).alloc _
  have hsz : (w3.alloc (.cells #[.int .i64 x.k, .int .i64 x.n, .string ⟨x.s.toArray⟩, u1, .int .i64 x.d.k, .int .i64 x.d.n, .string ⟨x.d.s.toArray⟩, u2, u3] 28)).heap.size = w3.heap.size + 1 := by simp
  have hws := hb.size
  refine wp_append_row (.agg #[.int .i64 0, .int .i64 0, .string ⟨#[]⟩, .slice none 0 0, .int .i64 0, .int .i64 0, .string ⟨#[]⟩, .slice none 0 0, .slice none 0 0]) 136 Tryz.infoTerm rfl (by decide) s u 26 ho Tryz.underlying26 hs hu (own_turns h0 T0 (fun _ _ h => h)) (own_one (e := 28) (sz := 9) (B := 0) w3 #[.int .i64 x.k, .int .i64 x.n, .string ⟨x.s.toArray⟩, u1, .int .i64 x.d.k, .int .i64 x.d.n, .string ⟨x.d.s.toArray⟩, u2, u3] rfl (Nat.zero_le _)) (TAt.one hT5.at_) (by omega) (by omega) (by simp) ?_
  intro v9 w9 hown9 hg9 hat9
  have T1 := Turns.appendedS hg9
  have hs9 := T1.size
  rw [hsz] at hs9
  refine hq v9 w9 ⟨fun g => D g ∨ D5 g, fun g => S g ∨ S5 g, cs ++ tcells x u1 u2 u3, ?_, ?_, ?_, ?_, ?_, ?_⟩ T1
  · rw [Tl.len_snoc]
    exact hown9
  · have ha : TAt w9 (fun g => D g ∨ D5 g) out S cs := TAt.dmono (fun g _ h => .inl h) (TAt.turns T1 (fun g hg hs hx => (hv g hx).2.1 hs) (fun g hg hs hx => (hv g hx).2.2 hs) (TAt.turns T0 (fun _ _ _ h => h) (fun _ _ _ h => h) h1))
    have hb' : TAt w9 (fun g => D g ∨ D5 g) (.one x) S5 (tcells x u1 u2 u3) := TAt.dmono (fun g _ h => .inr h) (((hT5.turns T3 (fun _ _ _ h => h) (fun _ _ _ h => h)).turns T1 (fun g hg hs hx => by have := (hv g hx).1.2; have := (hS5 g hs).1; omega) (fun g hg hs hx => by have := (hv g hx).1.2; have := (hD5 g hs).1; omega)).at_)
    exact TAt.app ha hb' (fun g _ h5 h6 => by have := (h2 g h5).2; have := (hS5 g h6).1; omega)
  · intro g hg
    rcases hat9 with e | e
    · rw [e] at hg
      have h5 := hv g hg
      exact ⟨⟨h5.1.1, by omega⟩, fun h => h.elim h5.2.1 (fun h6 => by have := (hS5 g h6).1; omega), fun h => h.elim h5.2.2 (fun h6 => by have := (hD5 g h6).1; omega)⟩
    · have hg2 : g = w3.heap.size + 1 := by
        rw [hg, hsz] at e
        simpa using e
      subst hg2
      have hlt := World.ownsRow.lt hown9 _ hg
      exact ⟨⟨by omega, hlt.2⟩, fun h => h.elim (fun h6 => by have := (h2 _ h6).2; omega) (fun h6 => by have := (hS5 _ h6).2; omega), fun h => h.elim (fun h6 => by have := (h3 _ h6).2; omega) (fun h6 => by have := (hD5 _ h6).2; omega)⟩
  · intro g hg
    rcases hg with hg | hg
    · have := h2 g hg; omega
    · have := hS5 g hg; omega
  · intro g hg
    rcases hg with hg | hg
    · have := h3 g hg; omega
    · have := hD5 g hg; omega
  · intro g h5 h6
    rcases h5 with h5 | h5 <;> rcases h6 with h6 | h6
    · exact h4 g h5 h6
    · have := (h2 g h5).2; have := (hD5 g h6).1; omega
    · have := (hS5 g h5).1; have := (h3 g h6).2; omega
    · exact hSD5 g h5 h6
end Go.Proofs.YtpiekdcbjkgipaaGreat

