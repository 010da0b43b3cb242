/- The law CodeFirst, walked. -/
import Derived.Test.YthfelkcomhflnaaDoorQ45
import Derived.Test.YthfelkcomhflnaaDoorQ46
import Derived.Test.YthfelkcomhflnaaDoorQ12
namespace Go.Proofs.YthfelkcomhflnaaDoor
open Go.ChangeShapes Go.WideShapes Go.ChangeAt Go.RowKit Go.Deep
open CD (Ins)

theorem stacks_well (l : List Ins) (n : Nat) (hn : l.length = n) (w : World) (v : Value) (h : IIn w v l) (hr : CD.rgt l = true) (hw : CD.Well l) : Calls Tryd.prog 8 #[v] w fun e w' => ∃ S b, e = .returned (.tuple #[.slice (some ⟨b, 0, none⟩) n n, .nilIface]) ∧ CD.Fin l S ∧ w.heap.size ≤ b ∧ Stk w' b S ∧ Went w w' := by
  refine (stacks_any l w v h).mono ?_
  rintro e w' ⟨hb, ⟨-, h1⟩ | ⟨S', b, rfl, -, h2, h3, h4⟩⟩
  · exact absurd ⟨hr, hw⟩ h1
  · exact ⟨S', b, by rw [hn], h2, h3, h4, hb⟩
theorem IOut.iin {w : World} {S : Nat → Prop} {v : Value} {l : List Ins} (h : IOut w S v l) (hl : l.length ≤ 1000000) : IIn w v l := by
  obtain ⟨-, cs, h1, h2⟩ := h
  exact IOwn.readable (B := 0) ⟨cs, h1, h2⟩ hl (Nat.zero_le _)
set_option maxRecDepth 100000 in
set_option maxHeartbeats 8000000 in
theorem codeFirst_walk (l : List Ins) (w : World) (v : Value) (h : IIn w v l) (hT : Tab w) : Calls Tryd.prog 5 #[v] w fun e w' => e = .returned (.bool true) ∧ Below w.heap.size w w' := by
  have hAw := Lib.hid (fun (w' : World) (k : Below w.heap.size w w') => awake16_any w' (hT.on k))
  have hSm := Lib.hid (fun (w' : World) (k : Below w.heap.size w w') => csmall_any l w' v (h.below k))
  obtain ⟨sm, hsm⟩ : ∃ sm, csml l = sm := ⟨_, rfl⟩
  rw [hsm] at hSm
  have hb0 := Below.refl w.heap.size w
  obtain ⟨A, c, rfl⟩ := h.read
  cases sm
  · clear h hsm
    have st0 : True := trivial
    go_enter Tryd.func5, Tryd.ntmps5
    go_wp2_with (first
      | (clear st0
         go_at_call 6
         refine (hAw.out _ hb0).mono ?_
         rintro e w1 ⟨rfl, hb1⟩
         have st1 : True := trivial)
      | (clear st1
         go_at_call 7
         refine (hSm.out _ hb1).mono ?_
         rintro e w2 ⟨rfl, hq⟩
         have hb2 : Below w.heap.size w w2 := Below.trans hb1 (Below.mono hq (Below.size hb1))
         have st2 : True := trivial)
      | (clear st2
         go_at_call 6
         refine (hAw.out _ hb2).mono ?_
         rintro e w3 ⟨rfl, hq3⟩
         have hb3 : Below w.heap.size w w3 := hb2.trans (Below.mono hq3 hb2.size)
         have st3 : True := trivial))
    go_ret
    exact ⟨rfl, hb3⟩
  · obtain ⟨hism, hl4⟩ := csml_ism hsm
    have hOw := Lib.hid (fun (w' : World) (k : Below w.heap.size w w') => iown_any l w' (.slice A l.length c) (h.below k) hism)
    have h' := Lib.hid h
    obtain ⟨L, hL⟩ : ∃ L, l.length = L := ⟨_, rfl⟩
    have hL' := Lib.hid hL
    by_cases hw : CD.rgt l = true ∧ CD.Well l
    · have hSt := Lib.hid (fun (w' : World) (u : Value) (k : IIn w' u l) => stacks_well l L hL w' u k hw.1 hw.2)
      have hlen := CD.rgt_len hw.1
      have hmay := Lib.hid (fun (i : Nat) (x : Ins) (hx : l[i]? = some x) => CD.rgt_at hw.1 hx)
      rw [hL] at hlen hSm hOw ⊢
      clear h hsm hism hL hw
      have st0 : True := trivial
      go_enter Tryd.func5, Tryd.ntmps5
      go_wp2_with (first
        | (clear st0
           go_at_call 6
           refine (hAw.out _ hb0).mono ?_
           rintro e w1 ⟨rfl, hb1⟩
           have st1 : True := trivial)
        | (clear st1
           go_at_call 7
           refine (hSm.out _ hb1).mono ?_
           rintro e w2 ⟨rfl, hq⟩
           have hb2 : Below w.heap.size w w2 := Below.trans hb1 (Below.mono hq (Below.size hb1))
           have st2 : True := trivial)
        | (clear st2
           go_at_call 9
           refine (hOw.out _ hb2).mono ?_
           rintro e w3 ⟨v3, rfl, hI3, hq3⟩
           have hb3 : Below w.heap.size w w3 := hb2.trans (Below.mono hq3 hb2.size)
           have hI3' := Lib.hid (hI3.iin (by omega))
           obtain ⟨A3, c3, e3⟩ := hI3.read
           subst e3
           have st3 : True := trivial
           clear hI3 hq3)
        | (clear st3
           go_at_call 8
           refine (hSt.out _ _ hI3'.out).mono ?_
           rintro e w4 ⟨S, b, rfl, hF, hb0', hS4, hq4⟩
           have hb4 : Below w.heap.size w w4 := hb3.trans (Below.mono hq4 hb3.size)
           have hF' := Lib.hid hF
           have hS4' := Lib.hid hS4
           have hbl := hS4.1
           obtain ⟨u0, c0, p0, -⟩ := hS4.2 0 [0] hF.zero
           obtain ⟨A0, n0, rfl⟩ := p0.read
           have p0' := Lib.hid p0
           have hl1 := Lib.hid (pin_one w4 0)
           have st4 : True := trivial
           clear hF hS4 p0 hq4)
        | (clear st4
           go_at_call 12
           refine (rsame16_any [0] [0] _ _ _ (p0'.out.below ((Below.refl _ _).alloc (Nat.le_refl _) _)) hl1.out).mono ?_
           rintro e w5 ⟨rfl, hq5⟩
           have hq6 : Below w4.heap.size w4 w5 := ((Below.refl _ _).alloc (Nat.le_refl _) _).trans (Below.mono hq5 (by simp))
           have st5 : True := trivial
           clear hq5))
      have hb5 : Below w.heap.size w w5 := hb4.trans (Below.mono hq6 hb4.size)
      have hS5 := Lib.hid (hS4'.out.below hq6)
      clear c0 st5 hq6 hb4 hb3 hb2
      go_loopw [5, 34] (fun s5 i wr => ∃ j : Nat, j ≤ L ∧ i = .int .i64 j ∧ Below w5.heap.size w5 wr) (fun _ i _ => L - (intOf i).toNat)
      case atStart => exact ⟨0, by omega, rfl, Below.refl _ _⟩
      case round =>
        obtain ⟨j, hj, rfl, hbr⟩ := hrel
        have hbw : Below w.heap.size w wr := hb5.trans (Below.mono hbr hb5.size)
        by_cases hlt : j < L
        · have hx : l[j]? = some (l[j]'(by rw [hL'.out]; exact hlt)) := List.getElem?_eq_getElem _
          obtain ⟨x, hxe⟩ : ∃ x, l[j]'(by rw [hL'.out]; exact hlt) = x := ⟨_, rfl⟩
          rw [hxe] at hx
          have hIr := h'.out.below hbw
          rw [hL'.out] at hIr
          obtain ⟨bi, o, I, q, rfl, hbi, hd, p0, p1, p2, p3, p4, p5, p6, p7⟩ := hIr.at_ hx
          have hm := hmay.out j x hx
          have hSr := hS5.out.below hbr
          have hbl5 := hSr.1
          have hx' := Lib.hid hx
          have hba : Below wr.heap.size wr (wr.alloc (.cells #[.int .i64 x.op, .int .i64 x.a, .int .i64 x.b, .string ⟨x.s.toArray⟩, .int .i64 x.d.k, .int .i64 x.d.n, .string ⟨x.d.s.toArray⟩, .slice I x.d.is.len q] 44)) := (Below.refl _ _).alloc (Nat.le_refl _) _
          have hbr2 : Below w5.heap.size w5 (wr.alloc (.cells #[.int .i64 x.op, .int .i64 x.a, .int .i64 x.b, .string ⟨x.s.toArray⟩, .int .i64 x.d.k, .int .i64 x.d.n, .string ⟨x.d.s.toArray⟩, .slice I x.d.is.len q] 44)) := hbr.trans (Below.mono hba hbr.size)
          by_cases h9 : x.op = 9
          · obtain ⟨an, han⟩ : ∃ an : Nat, x.a = an := ⟨x.a.toNat, by have := CD.may_place hm (by omega); omega⟩
            have hpa := CD.may_place hm (by omega)
            have hal : an < L := by rw [hL'.out] at hpa; omega
            have hSj : j < S.length := by rw [hF'.out.len, hL'.out]; exact hlt
            obtain ⟨sj, hsj⟩ : ∃ sj, S[j]? = some sj := ⟨_, List.getElem?_eq_getElem hSj⟩
            obtain ⟨uj, cj, pj, zj⟩ := hSr.2 j sj hsj
            rw [h9, han] at hbr2
            rw [h9] at p0
            rw [han] at p1
            by_cases hnil : sj = []
            · obtain rfl := zj hnil
              clear pj hx hd hIr hSr hm hba
              go_wp2_with fail
              go_roundw
              case rel => exact ⟨j + 1, by omega, by go_num, hbr2⟩
              case measure => simp [intOf]; omega
            · obtain ⟨ts, hn, H⟩ := hF'.out.on j sj x hsj hnil hx
              have hSa : S[an]? = some [0] := by
                unfold CD.nexts at hn
                rw [if_neg (by omega), if_neg (by omega), if_pos h9] at hn
                injection hn with hn
                subst hn
                have := H x.a.toNat [0] (by simp)
                rw [han] at this
                simpa using this
              obtain ⟨ua, ca, pa, -⟩ := hSr.2 an [0] hSa
              obtain ⟨Aa, na, rfl⟩ := pa.read
              obtain ⟨Aj, nj, rfl⟩ := pj.read
              have hjl : 0 < sj.length := by cases sj with | nil => exact absurd rfl hnil | cons => simp
              have hC := Lib.hid (rsame16_any [0] [0] ((wr.alloc (.cells #[.int .i64 9, .int .i64 (an : Int), .int .i64 x.b, .string ⟨x.s.toArray⟩, .int .i64 x.d.k, .int .i64 x.d.n, .string ⟨x.d.s.toArray⟩, .slice I x.d.is.len q] 44)).alloc (.cells #[.int .i64 0] 3)) (.slice Aa ([0] : List Int).length na) (.slice (some ⟨(wr.alloc (.cells #[.int .i64 9, .int .i64 (an : Int), .int .i64 x.b, .string ⟨x.s.toArray⟩, .int .i64 x.d.k, .int .i64 x.d.n, .string ⟨x.d.s.toArray⟩, .slice I x.d.is.len q] 44)).heap.size, 0, none⟩) 1 1) (pa.below (((Below.refl _ _).alloc (Nat.le_refl _) _).alloc (by simp) _)) (pin_one (wr.alloc (.cells #[.int .i64 9, .int .i64 (an : Int), .int .i64 x.b, .string ⟨x.s.toArray⟩, .int .i64 x.d.k, .int .i64 x.d.n, .string ⟨x.d.s.toArray⟩, .slice I x.d.is.len q] 44)) 0))
              rw [show (wr.alloc (.cells #[.int .i64 9, .int .i64 (an : Int), .int .i64 x.b, .string ⟨x.s.toArray⟩, .int .i64 x.d.k, .int .i64 x.d.n, .string ⟨x.d.s.toArray⟩, .slice I x.d.is.len q] 44)).heap.size = wr.heap.size + 1 by simp] at hC
              generalize sj.length = mj at hjl cj
              clear pj hx hd hIr hSr hm pa hn H zj hba
              go_wp2_with (
                go_at_call 12
                refine hC.out.mono ?_
                rintro e w7 ⟨rfl, hq7⟩
                have hb7 : Below w5.heap.size w5 w7 := (Below.alloc hbr2 (Below.size hbr2) _).trans (Below.mono hq7 (by have := hbr2.size; simp at this ⊢; omega))
                clear hq7)
              go_roundw
              case rel => exact ⟨j + 1, by omega, by go_num, hb7⟩
              case measure => simp [intOf]; omega
          · have e9 : (x.op == 9) = false := by simp [h9]
            clear hx hd hIr hSr hm hba
            go_wp2_with fail
            go_roundw
            case rel => exact ⟨j + 1, by omega, by go_num, hbr2⟩
            case measure => simp [intOf]; omega
        · obtain rfl : j = L := by omega
          go_wp2_with fail
          go_ret
          exact ⟨rfl, hbw⟩
    · have hSt := Lib.hid (fun (w' : World) (u : Value) (k : IIn w' u l) => stacks_no l w' u k hw)
      rw [hL] at hSm hOw ⊢
      clear h hsm hism hL hw
      have st0 : True := trivial
      go_enter Tryd.func5, Tryd.ntmps5
      go_wp2_with (first
        | (clear st0
           go_at_call 6
           refine (hAw.out _ hb0).mono ?_
           rintro e w1 ⟨rfl, hb1⟩
           have st1 : True := trivial)
        | (clear st1
           go_at_call 7
           refine (hSm.out _ hb1).mono ?_
           rintro e w2 ⟨rfl, hq⟩
           have hb2 : Below w.heap.size w w2 := Below.trans hb1 (Below.mono hq (Below.size hb1))
           have st2 : True := trivial)
        | (clear st2
           go_at_call 9
           refine (hOw.out _ hb2).mono ?_
           rintro e w3 ⟨v3, rfl, hI3, hq3⟩
           have hb3 : Below w.heap.size w w3 := hb2.trans (Below.mono hq3 hb2.size)
           have hI3' := Lib.hid (hI3.iin (by omega))
           obtain ⟨A3, c3, e3⟩ := hI3.read
           subst e3
           have st3 : True := trivial
           clear hI3 hq3)
        | (clear st3
           go_at_call 8
           refine (hSt.out _ _ hI3'.out).mono ?_
           rintro e w4 ⟨rfl, hq4⟩
           have hb4 : Below w.heap.size w w4 := hb3.trans (Below.mono hq4 hb3.size)
           have st4 : True := trivial))
      go_ret
      exact ⟨rfl, hb4⟩
end Go.Proofs.YthfelkcomhflnaaDoor

/- Instructions that came in: an argument of a law, as what can be read. -/
namespace Go.Proofs.YthfelkcomhflnaaDoor
open Go.ChangeShapes Go.WideShapes Go.ChangeAt Go.RowKit Go.Deep
open CD (Ins)

section
variable {H : Type} {enc : TypeId × Value → H} {W : World}
theorem fieldsInstr : ∃ fs : Array Field, Tryd.prog.underlying 44 = some (.struct fs)
    ∧ (fs[0]?).map (fun f => (f.type, f.offset)) = some (3, 0) ∧ (fs[1]?).map (fun f => (f.type, f.offset)) = some (3, 1) ∧ (fs[2]?).map (fun f => (f.type, f.offset)) = some (3, 2) ∧ (fs[3]?).map (fun f => (f.type, f.offset)) = some (9, 3) ∧ (fs[4]?).map (fun f => (f.type, f.offset)) = some (42, 4) :=
  ⟨_, Tryd.underlying44, by kernel_rfl, by kernel_rfl, by kernel_rfl, by kernel_rfl, by kernel_rfl⟩
theorem eightInstr : Tryd.prog.cellsOf 44 = 8 := by kernel_rfl
set_option maxRecDepth 100000 in
theorem instr_cells {fuel : Nat} {cs : List Value} {x : DataW H × List MemPlace} (h : DataW.trod enc Tryd.prog W 0 (fun _ => true) true fuel 44 cs = some x) :
    ∃ (y : Ins) (vi : Value), cs = icells y vi ∧ IBd y ∧ In W vi y.d.is := by
  obtain ⟨fs, hu, f0, f1, f2, f3, f4⟩ := fieldsInstr
  obtain ⟨xs, m, hm, -, hl, hxl, hx⟩ := DataW.trod_struct hu h
  rw [eightInstr] at hl
  simp only [Option.map_eq_some_iff, Prod.mk.injEq] at f0 f1 f2 f3 f4
  obtain ⟨q0, e0, t0, o0⟩ := f0
  obtain ⟨q1, e1, t1, o1⟩ := f1
  obtain ⟨q2, e2, t2, o2⟩ := f2
  obtain ⟨q3, e3, t3, o3⟩ := f3
  obtain ⟨q4, e4, t4, o4⟩ := f4
  have hsz : 5 ≤ fs.size := by
    have := (Array.getElem?_eq_some_iff.1 e4).1; omega
  have g := fun i (hi : i < 5) => List.getElem?_eq_getElem (l := xs) (i := i) (by omega)
  have h0 := (hx 0 q0 e0).trans (g 0 (by omega))
  have h1 := (hx 1 q1 e1).trans (g 1 (by omega))
  have h2 := (hx 2 q2 e2).trans (g 2 (by omega))
  have h3 := (hx 3 q3 e3).trans (g 3 (by omega))
  have h4 := (hx 4 q4 e4).trans (g 4 (by omega))
  obtain ⟨c0, c1, c2, c3, c4, c5, c6, c7, rfl⟩ : ∃ c0 c1 c2 c3 c4 c5 c6 c7, cs = [c0, c1, c2, c3, c4, c5, c6, c7] := by
    match cs, hl with
    | [c0, c1, c2, c3, c4, c5, c6, c7], _ => exact ⟨_, _, _, _, _, _, _, _, rfl⟩
  rw [t0, o0, oneInt] at h0
  rw [t1, o1, oneInt] at h1
  rw [t2, o2, oneInt] at h2
  rw [t3, o3, oneString] at h3
  rw [t4, o4, fourDatum] at h4
  simp only [List.drop, List.take_succ_cons, List.take_zero] at h0 h1 h2 h3 h4
  obtain ⟨k, ek, -, wk⟩ := DataW.trod_int Tryd.underlying3 h0
  obtain ⟨n, en, -, wn⟩ := DataW.trod_int Tryd.underlying3 h1
  obtain ⟨n2, en2, -, wn2⟩ := DataW.trod_int Tryd.underlying3 h2
  obtain ⟨s, es, -, _⟩ := DataW.trod_string Tryd.underlying9 h3
  obtain ⟨dk, dn, ds, vi, m4, y4, -, ed, bdk, bdn, hd⟩ := datum_cells h4
  obtain ⟨vi', is, ei, hi, bi⟩ := data_cells m4 hd
  simp only [List.cons.injEq, and_true] at ek en en2 es ed ei
  obtain ⟨rfl, rfl, rfl, rfl⟩ := ed
  subst ek en en2 es ei
  exact ⟨⟨k, n, n2, s.data.toList, ⟨dk, dn, ds.data.toList, is⟩⟩, _, rfl, ⟨bounds64 wk, bounds64 wn, bounds64 wn2, bdk, bdn, bi⟩, hi⟩
theorem instrs_cells (fuel : Nat) {cs : List Value} {x : DataW H × List MemPlace} (h : DataW.trod enc Tryd.prog W 0 (fun _ => true) true fuel 22 cs = some x) :
    ∃ v l, cs = [v] ∧ IIn W v l ∧ ∀ y ∈ l, IBd y := by
  rcases DataW.trod_slice Tryd.underlying22 h with ⟨rfl, -⟩ | ⟨a, len, cap, elems, rest, n, hn, rfl, -, -, hl, hm, hlen, hel, -, -⟩
  · exact ⟨_, [], rfl, IIn.nil W, by simp⟩
  · have each : ∀ i, ∃ y : Ins, i < len → ((∃ u, In W u y.d.is ∧ ∀ (j : Nat) (z : Value), (icells y u)[j]? = some z → W.cell? (a.add (i * 8 + j)) = some z) ∧ IBd y) := by
      intro i
      by_cases hi : i < len
      · have key := hel i hi
        rw [List.getElem?_eq_getElem (by omega)] at key
        obtain ⟨cs', h1, h2⟩ := Option.bind_eq_some_iff.1 key
        rw [eightInstr] at h1
        obtain ⟨y, vi, rfl, hB, hI⟩ := instr_cells h2
        obtain ⟨_, _, hat⟩ := World.cells?_some h1
        refine ⟨y, fun _ => ⟨⟨vi, hI, fun j z hz => ?_⟩, hB⟩⟩
        have hj : j < 8 := by have := (List.getElem?_eq_some_iff.1 hz).1; simpa [icells] using this
        have c0 := hat j hj
        rw [Go.Deep.add_add] at c0
        rw [c0]
        exact hz
      · exact ⟨⟨0, 0, 0, [], ⟨0, 0, [], .nil⟩⟩, fun h => absurd h hi⟩
    obtain ⟨D, hD⟩ := Classical.axiomOfChoice each
    obtain ⟨b, off, spot⟩ := a
    have hlen2 : ((List.range len).map D).length = len := by simp
    have hbd : ∀ p ∈ (List.range len).map D, IBd p := by
      intro p hp
      simp only [List.mem_map, List.mem_range] at hp
      obtain ⟨i, hi, rfl⟩ := hp
      exact (hD i hi).2
    by_cases h0 : 0 < len
    · obtain ⟨⟨u0, -, H0⟩, -⟩ := hD 0 h0
      have hc0 := H0 0 _ rfl
      have hspot : spot = none := by simpa [Addr.add] using World.cell?_spot hc0
      subst hspot
      have hlt : b < W.heap.size := by
        have := World.block_lt_of_cell? W _ hc0
        rwa [add_plain] at this
      refine ⟨_, (List.range len).map D, rfl, ⟨some ⟨b, off, none⟩, cap, by rw [hlen2], by rw [hlen2]; unfold maxLen at hm; omega, b, off, fun _ => ⟨rfl, hlt⟩, fun j x hx => ?_⟩, hbd⟩
      have hj : j < len := by have := (List.getElem?_eq_some_iff.1 hx).1; omega
      rw [List.getElem?_map, List.getElem?_range hj] at hx
      simp only [Option.map_some, Option.some.injEq] at hx
      subst hx
      obtain ⟨⟨u, hu, Hu⟩, -⟩ := hD j hj
      refine ⟨u, hu, fun i y hy => ?_⟩
      have := Hu i y hy
      rw [add_plain] at this
      rw [Nat.add_assoc]
      exact this
    · obtain rfl : len = 0 := by omega
      exact ⟨_, [], rfl, ⟨some ⟨b, off, spot⟩, cap, rfl, by simp, 0, 0, fun h => absurd h (by simp), fun j x hx => by simp at hx⟩, by simp⟩
set_option maxRecDepth 100000 in
theorem instrs_open {base : Nat} {v : Value} {d : DataW H} {ps : List MemPlace} (hv : Value.okWide Tryd.prog W .any base 22 v) (h : DataW.Trod enc Tryd.prog W 0 (fun _ => true) true 22 v d ps) :
    ∃ l, IIn W v l ∧ ∀ y ∈ l, IBd y := by
  obtain ⟨a, n, c, rfl⟩ := okWide_slice Tryd.underlying22 hv
  obtain ⟨fuel, hf⟩ := h
  obtain ⟨u, l, e, hI, hB⟩ := instrs_cells fuel hf
  simp [Value.cells] at e
  subst e
  exact ⟨l, hI, hB⟩
end
end Go.Proofs.YthfelkcomhflnaaDoor
